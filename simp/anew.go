package simp

import (
	"riddle/api"
	"riddle/arena"
	"riddle/atom"
)

// Negate is the opposite.
func Negate(a *arena.Arena, id int) (int, api.Errno) {
	return anew(a, id, func(_ int, n api.Node, opposites []int) (int, api.Errno) {
		switch n.Kind {
		case api.And:
			return Or(a, opposites...)
		case api.Or:
			return And(a, opposites...)
		case api.Some:
			return a.Bind(api.All, n.Var, opposites[0])
		case api.All:
			return a.Bind(api.Some, n.Var, opposites[0])
		}
		return a.Atom(atom.Negate(api.Atom{Kind: n.Kind, D: n.D, T: n.T}))
	})
}

// Again is the same formula, joined anew.
func Again(a *arena.Arena, id int) (int, api.Errno) {
	return anew(a, id, func(id int, n api.Node, kids []int) (int, api.Errno) {
		switch n.Kind {
		case api.And:
			return And(a, kids...)
		case api.Or:
			return Or(a, kids...)
		case api.Some, api.All:
			return a.Bind(n.Kind, n.Var, kids[0])
		}
		return id, api.OK
	})
}

// A maker makes what comes of a node, when it is known what came of its kids.
type maker func(id int, n api.Node, kids []int) (int, api.Errno)

// anew is what comes of a formula. What came of a node is kept, since there may be more ways down to it than could be
// gone.
func anew(a *arena.Arena, id int, form maker) (int, api.Errno) {
	if a == nil {
		return 0, api.ErrArg
	}
	kept := map[int]int{}
	var come func(id int) (int, api.Errno)
	come = func(id int) (int, api.Errno) {
		if came, is := kept[id]; is {
			return came, api.OK
		}
		node, is := a.Node(id)
		if !is {
			return 0, api.ErrNode
		}
		var kids []int
		for _, kid := range node.Kids {
			came, e := come(kid)
			if e != api.OK {
				return 0, e
			}
			kids = append(kids, came)
		}
		came, e := form(id, node, kids)
		if e == api.OK {
			kept[id] = came
		}
		return came, e
	}
	return come(id)
}
