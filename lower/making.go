package lower

import (
	"slices"

	"riddle/api"
	"riddle/arena"
	"riddle/simp"
)

// The numbers of the constants' nodes.
const (
	never = iota
	always
)

// A making lays a formula's nodes in an arena. From its first error on it lays none.
type making struct {
	arena *arena.Arena
	wrong api.Errno
}

// A spot is a side of a place.
type spot struct {
	place
	side bool
}

// nodes is the call that makes a formula's node on a side. What came of a spot is kept: an iff goes to both sides of its
// kids on each side of its own, so that there may be more ways down to a spot than could be gone.
func (m *making) nodes() func(p place, side bool) int {
	kept, value, below := map[spot]int{}, values(), places()
	var come func(p place, side bool) int
	come = func(p place, side bool) int {
		at := spot{p, side}
		if id, is := kept[at]; is || m.wrong != api.OK {
			return id
		}
		id, kids, whole := never, below(p), side
		switch p.tree.Kind {
		case api.TreeNot:
			id = come(kids[0], !side)
		case api.TreeOr:
			whole = !whole
			fallthrough
		case api.TreeAnd:
			id = m.join(whole, each(kids, func(kid place) int { return come(kid, side) })...)
		case api.TreeImplies:
			id = m.join(!side, come(kids[0], !side), come(kids[1], side))
		case api.TreeIff:
			first := m.join(true, come(kids[0], true), come(kids[1], side))
			second := m.join(true, come(kids[0], false), come(kids[1], !side))
			id = m.join(false, first, second)
		case api.TreeSome:
			whole = !whole
			fallthrough
		case api.TreeAll:
			id = m.bind(whole, p, come(kids[0], side))
		default:
			id = m.leaf(p.tree, each(kids, value), side)
		}
		kept[at] = id
		return id
	}
	return come
}

// each is what comes of kids, one by one from the left.
func each[T any](kids []place, come func(kid place) T) []T {
	var all []T
	for _, kid := range kids {
		all = append(all, come(kid))
	}
	return all
}

// leaf is the node of a formula that has none but terms in it. A kind that says the opposite of another one falls through
// to it, on the other side.
func (m *making) leaf(t *api.Tree, terms []api.Term, side bool) int {
	switch t.Kind {
	case api.TreeFalse:
		side = !side
		fallthrough
	case api.TreeTrue:
		return constant(side)
	case api.TreeGe:
		side = !side
		fallthrough
	case api.TreeLt:
		return m.less(gap(terms), side)
	case api.TreeGt:
		side = !side
		fallthrough
	case api.TreeLe:
		return m.less(more(gap(terms)), side)
	case api.TreeNe:
		side = !side
		fallthrough
	case api.TreeEq:
		return m.equal(gap(terms), side)
	}
	return m.divides(t.N, terms[0], side)
}

func constant(side bool) int {
	if side {
		return always
	}
	return never
}

// less says that a term is above 0; on the side false, that it isn't.
func (m *making) less(t api.Term, side bool) int {
	if !side {
		t = more(opposite(t))
	}
	return m.atom(api.Atom{Kind: api.Less, T: t})
}

// equal says that a term is neither above 0 nor below; on the side false, that it is one of these.
func (m *making) equal(t api.Term, side bool) int {
	u := opposite(t)
	if side {
		t, u = more(t), more(u)
	}
	return m.join(side, m.less(t, true), m.less(u, true))
}

// divides says that a number divides a term; on the side false, that it doesn't.
func (m *making) divides(d api.Int, t api.Term, side bool) int {
	if side {
		return m.atom(api.Atom{Kind: api.Div, D: d, T: t})
	}
	return m.atom(api.Atom{Kind: api.Not, D: d, T: t})
}

func (m *making) atom(x api.Atom) int {
	if m.wrong != api.OK {
		return never
	}
	id, e := m.arena.Atom(x)
	m.wrong = e
	return id
}

// join is the And of nodes, if the whole of them is asked for, else their Or.
func (m *making) join(whole bool, ids ...int) int {
	if m.wrong != api.OK {
		return never
	}
	law := simp.Or
	if whole {
		law = simp.And
	}
	id, e := law(m.arena, ids...)
	m.wrong = e
	return id
}

// bind puts a quantifier above a node for each of its names, the last one first.
func (m *making) bind(whole bool, p place, id int) int {
	kind := api.Some
	if whole {
		kind = api.All
	}
	for i := range slices.Backward(p.tree.Names) {
		if m.wrong != api.OK {
			return never
		}
		id, m.wrong = m.arena.Bind(kind, p.next+i, id)
	}
	return id
}
