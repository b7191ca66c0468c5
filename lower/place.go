package lower

import (
	"math"

	"riddle/api"
)

// A place is where a tree stands in a formula. The tree alone doesn't tell it: one list of kids may hang at several
// places, where its names mean other variables.
type place struct {
	tree  *api.Tree
	scope *scope
	// next is the first variable of the next quantifier, in the order of the text.
	next int
}

// A scope is what names mean: the variables of the innermost quantifier above a place, then those of the scope about it.
// The outermost one has the free names.
type scope struct {
	variables map[string]int
	outer     *scope
}

// variable is that of a name, which has one in some scope.
func (s *scope) variable(name string) int {
	for s.outer != nil {
		if v, is := s.variables[name]; is {
			return v
		}
		s = s.outer
	}
	return s.variables[name]
}

// firsts are the first places of names.
func firsts(names []string) map[string]int {
	variables := map[string]int{}
	for i, name := range names {
		if _, is := variables[name]; !is {
			variables[name] = i
		}
	}
	return variables
}

// lasts are the variables of names that are numbered from one on: of a name that comes again the last one.
func lasts(names []string, from int) map[string]int {
	variables := map[string]int{}
	for i, name := range names {
		variables[name] = from + i
	}
	return variables
}

// places is the call that tells the places of a tree's kids.
func places() func(p place) []place {
	inner, bound := scopes{}, binders{}
	return func(p place) []place {
		scope, next := inner.within(p), p.next+len(p.tree.Names)
		var kids []place
		for i := range p.tree.Kids {
			kid := &p.tree.Kids[i]
			kids = append(kids, place{kid, scope, next})
			next += bound.in(kid)
		}
		return kids
	}
}

// scopes has what quantifiers bind, by the first variable of each. A quantifier has one scope on both sides, so that what
// came of a place in it is found again.
type scopes map[int]*scope

// within is the scope of a tree's kids.
func (s scopes) within(p place) *scope {
	if len(p.tree.Names) == 0 {
		return p.scope
	}
	if _, is := s[p.next]; !is {
		s[p.next] = &scope{variables: lasts(p.tree.Names, p.next), outer: p.scope}
	}
	return s[p.next]
}

// binders has how many names are bound in formulas. Each is counted once, though one may hang at more places than could
// be gone to.
type binders map[*api.Tree]int

func (b binders) in(t *api.Tree) int {
	if t.Kind < api.TreeNot {
		// It is a term, or has no kids but terms.
		return 0
	}
	if many, is := b[t]; is {
		return many
	}
	many := len(t.Names)
	for i := range t.Kids {
		// More than that are never reached: each of them is a node, too.
		many = min(many+b.in(&t.Kids[i]), math.MaxInt32)
	}
	b[t] = many
	return many
}
