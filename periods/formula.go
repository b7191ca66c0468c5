package periods

import (
	"slices"

	"riddle/api"
	"riddle/arena"
	"riddle/term"
	"riddle/zint"
)

// refused is the error of an arena, a node or a formula of which there is no set for the variable, whatever its atoms are.
func refused(a *arena.Arena, id, v int) api.Errno {
	if a == nil {
		return api.ErrArg
	}
	if _, is := a.Node(id); !is {
		return api.ErrNode
	}
	if !a.Plain(id) {
		return api.ErrQuant
	}
	if slices.ContainsFunc(a.Free(id), func(free int) bool { return free != v }) {
		return api.ErrFree
	}
	return api.OK
}

// ofNode is a node's set, when the sets of its kids are known.
func ofNode(n api.Node, v int, sets []*Set) (*Set, api.Errno) {
	switch n.Kind {
	case api.True:
		return None().Rest(), api.OK
	case api.Less:
		return ofLess(n.T, v), api.OK
	case api.Div:
		return ofDiv(n.D, n.T, v)
	case api.Not:
		s, e := ofDiv(n.D, n.T, v)
		return s.Rest(), e
	case api.And:
		return folded(n.Kids, sets, (*Set).Meet)
	case api.Or:
		return folded(n.Kids, sets, (*Set).Join)
	}
	return None(), api.OK
}

// ofLess has the values of v for which 0 < t. In an atom's form v alone has no other coefficients than 1 and -1; the
// quotients would be right for any.
func ofLess(t api.Term, v int) *Set {
	c := term.Coef(t, v)
	if zint.Sign(c) > 0 {
		q, _, _ := zint.DivMod(zint.Neg(t.K), c)
		return Above(q)
	}
	q, _, _ := zint.DivMod(zint.Sub(t.K, zint.Of(1)), zint.Neg(c))
	return Above(q).Rest()
}

// ofDiv has the values of v for which d divides t.
func ofDiv(d api.Int, t api.Term, v int) (*Set, api.Errno) {
	period, e := periodOf(d)
	if e != api.OK {
		return nil, e
	}
	c, k := remainderOf(term.Coef(t, v), period), remainderOf(t.K, period)
	remainders := newRow(period)
	for r := range period {
		if (c*r+k)%period == 0 {
			remainders.add(r)
		}
	}
	return &Set{period: period, rows: []row{remainders}}, api.OK
}

// folded takes the kids' sets together: the first one with the second, this with the third, and so on.
func folded(kids []int, sets []*Set, join func(s, o *Set) (*Set, api.Errno)) (*Set, api.Errno) {
	all := sets[kids[0]]
	for _, kid := range kids[1:] {
		next, e := join(all, sets[kid])
		if e != api.OK {
			return nil, e
		}
		all = next
	}
	return all, api.OK
}
