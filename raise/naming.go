package raise

import (
	"strconv"
	"strings"

	"riddle/lex"
)

// What names of bound variables are made of.
const (
	ofOthers = "v"
	ofBelow  = "w"
	apart    = "_"
)

// A naming is what variables are called at a place of a formula.
type naming struct {
	names []string
	taken map[string]struct{}
	// bound has how many quantifiers above the place bind a variable: one may bind again what another one does.
	bound map[int]int
}

// namingOf is that of a formula as a whole; false, if the names may not be.
func namingOf(names []string) (naming, bool) {
	n := naming{names: names, taken: map[string]struct{}{}, bound: map[int]int{}}
	for _, name := range names {
		if n.isTaken(name) || !lex.IsName(name) {
			return naming{}, false
		}
		n.taken[name] = struct{}{}
	}
	return n, true
}

func (n naming) isTaken(name string) bool {
	_, is := n.taken[name]
	return is
}

// lacks tells whether a variable has no name, where it is free.
func (n naming) lacks(v int) bool {
	return v < 0 || v >= len(n.names)
}

// name is what a variable is called here, in new memory.
func (n naming) name(v int) string {
	if n.bound[v] > 0 {
		return n.boundName(v)
	}
	return strings.Clone(n.names[v])
}

// boundName is none of the names, so that it catches nothing that is free.
func (n naming) boundName(v int) string {
	name := ofOthers + strconv.Itoa(v)
	if v < 0 {
		// The magnitude is cut from the text, since the least number of its type has none there.
		name = ofBelow + strconv.Itoa(v)[1:]
	}
	for n.isTaken(name) {
		name += apart
	}
	return name
}
