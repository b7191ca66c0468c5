package subst

import (
	"riddle/api"
	"riddle/arena"
	"riddle/atom"
	"riddle/simp"
)

// The numbers of the constants' nodes.
const (
	never = iota
	always
)

// noKind is the kind of an atom that may not be.
const noKind = -1

// A filling puts a term into a variable's place.
type filling struct {
	v int
	t api.Term
}

func (f filling) put(x api.Atom) api.Atom {
	return atom.Put(x, f.v, f.t)
}

// An asking turns atoms by a function that was handed in.
type asking struct {
	f func(api.Atom) api.Atom
}

// ask is what the function answers. No call panics, whatever it is handed: what the function gives up by a panic is an
// atom that may not be, and is refused as such a one is.
func (q asking) ask(x api.Atom) (y api.Atom) {
	defer func() {
		if recover() != nil {
			y = api.Atom{Kind: noKind}
		}
	}()
	return q.f(x)
}

func isConstant(id int) bool {
	return id == never || id == always
}

// turned is what comes of a formula whose atoms are turned, but for the nodes that stay. What came of a node is kept,
// since there may be more ways down to it than could be gone.
func turned(a *arena.Arena, id int, stays func(id int) bool, turn func(api.Atom) api.Atom) (int, api.Errno) {
	kept := map[int]int{}
	var come func(id int) (int, api.Errno)
	come = func(id int) (int, api.Errno) {
		if stays(id) {
			return id, api.OK
		}
		if came, is := kept[id]; is {
			return came, api.OK
		}
		node, is := a.Node(id)
		if !is {
			// The function that turns atoms may have let nodes go.
			return 0, api.ErrNode
		}
		var kids []int
		for _, kid := range node.Kids {
			came, e := come(kid)
			if e != api.OK {
				return 0, e
			}
			kids = append(kids, came)
		}
		came, e := remade(a, node, kids, turn)
		if e == api.OK {
			kept[id] = came
		}
		return came, e
	}
	return come(id)
}

// remade is what comes of a node, when it is known what came of its kids.
func remade(a *arena.Arena, node api.Node, kids []int, turn func(api.Atom) api.Atom) (int, api.Errno) {
	switch node.Kind {
	case api.And:
		return simp.And(a, kids...)
	case api.Or:
		return simp.Or(a, kids...)
	case api.Some, api.All:
		return a.Bind(node.Kind, node.Var, kids[0])
	}
	return a.Atom(turn(api.Atom{Kind: node.Kind, D: node.D, T: node.T}))
}
