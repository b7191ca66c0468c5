package subst

import (
	"slices"

	"riddle/api"
	"riddle/arena"
	"riddle/term"
)

// places tell where a variable is free in a formula.
type places struct {
	marks map[int]mark
	// bound are the variables of the quantifiers above its free places.
	bound []int
}

// A mark tells of a node whether the variable is free in it.
type mark struct{ free bool }

// placesOf looks for a variable's free places from the formula's root on. It looks at nothing below a quantifier that
// binds the variable: what hangs there alone has no free place, whatever else stands above it.
func placesOf(a *arena.Arena, id, v int) places {
	at := places{marks: map[int]mark{}}
	var look func(id int) bool
	look = func(id int) bool {
		if known, is := at.marks[id]; is {
			return known.free
		}
		node, _ := a.Node(id)
		free := slices.ContainsFunc(node.T.Parts, func(p api.Part) bool { return p.Var == v })
		if !isQuantifier(node) || node.Var != v {
			for _, kid := range node.Kids {
				// Each kid is looked at, also behind one in which the variable is free.
				free = look(kid) || free
			}
		}
		at.marks[id] = mark{free}
		if free && isQuantifier(node) {
			at.bound = append(at.bound, node.Var)
		}
		return free
	}
	look(id)
	return at
}

// lacks tells whether the variable is not free in a node.
func (at places) lacks(id int) bool {
	return !at.marks[id].free
}

// catches tells whether a quantifier above a free place would bind a variable of the term that is put there.
func (at places) catches(t api.Term) bool {
	vars := term.Vars(t)
	return slices.ContainsFunc(at.bound, func(v int) bool {
		_, is := slices.BinarySearch(vars, v)
		return is
	})
}

func isQuantifier(n api.Node) bool {
	return n.Kind == api.Some || n.Kind == api.All
}
