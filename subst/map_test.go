package subst_test

import (
	"slices"
	"testing"

	"riddle/api"
	"riddle/arena"
	"riddle/atom"
	"riddle/subst"
)

// shift is x - 1, y - 1 .. for x, y ..: 1 is taken from the constant of each atom.
func shift(x api.Atom) api.Atom {
	k := 0
	if len(x.T.K.Mag) > 0 {
		k = int(x.T.K.Mag[0])
	}
	if x.T.K.Neg {
		k = -k
	}
	return api.Atom{Kind: x.Kind, D: x.D, T: api.Term{Parts: x.T.Parts, K: n(k - 1)}}
}

// Of every kind of node what comes of turning its atoms.
func TestP123EveryKind(t *testing.T) {
	f := mapped(shift)
	makeAll(t, []making{
		itself(f, never()), itself(f, always()),
		{f, x(1, 0), x(1, -1), of(x(1, -1))}, {f, div(3, 1, p(0, 1)), div(3, 0, p(0, 1)), of(div(3, 0, p(0, 1)))}, {f, not(3, 1, p(0, 1)), not(3, 0, p(0, 1)), of(not(3, 0, p(0, 1)))},
		{f, and(x(1, 0), y(1, 5)), and(x(1, -1), y(1, 4)), of(x(1, -1), y(1, 4), and(x(1, -1), y(1, 4)))},
		{f, or(x(1, 0), y(1, 5)), or(x(1, -1), y(1, 4)), of(x(1, -1), y(1, 4), or(x(1, -1), y(1, 4)))},
		{f, and(x(1, 0), or(y(1, 5), z(1, 7))), and(x(1, -1), or(y(1, 4), z(1, 6))), of(x(1, -1), y(1, 4), z(1, 6), or(y(1, 4), z(1, 6)), and(x(1, -1), or(y(1, 4), z(1, 6))))},
		{f, or(never(), x(1, 0)), x(1, -1), of(x(1, -1))}, {f, and(always(), x(1, 0)), x(1, -1), of(x(1, -1))}, {f, and(never(), x(1, 0)), never(), of(x(1, -1))}, {f, or(always(), x(1, 0)), always(), of(x(1, -1))}, {f, and(never(), always()), never(), nil},
		// What is joined is made simpler; what it is joined of was made by then.
		{f, and(x(1, 0), x(1, -4)), x(1, -5), of(x(1, -1), x(1, -5))}, {f, and(x(1, 0), x(-1, 3)), never(), of(x(1, -1), x(-1, 2))}, {f, and(x(1, 0), and(y(1, 0), z(1, 0))), and(x(1, -1), y(1, -1), z(1, -1)), of(x(1, -1), y(1, -1), z(1, -1), and(y(1, -1), z(1, -1)), and(x(1, -1), y(1, -1), z(1, -1)))},
		{mapped(atom.Negate), and(x(1, 0), div(2, 0, p(0, 1))), and(x(-1, 1), not(2, 0, p(0, 1))), of(x(-1, 1), not(2, 0, p(0, 1)), and(x(-1, 1), not(2, 0, p(0, 1))))},
	})
}

// Kids come in the order of their numbers, each with all that hangs below it ahead of the next one, a node that is reached
// on several ways once.
func TestP123OrderOfMaking(t *testing.T) {
	f := mapped(shift)
	makeAll(t, []making{
		{f, behind(of(x(1, 0), y(1, 0), z(1, 0)), and(z(1, 0), or(x(1, 0), y(1, 0)))), and(z(1, -1), or(x(1, -1), y(1, -1))), of(z(1, -1), x(1, -1), y(1, -1), or(x(1, -1), y(1, -1)), and(z(1, -1), or(x(1, -1), y(1, -1))))},
		{f, behind(of(z(1, 0), y(1, 0), x(1, 0)), and(x(1, 0), y(1, 0), z(1, 0))), and(x(1, -1), y(1, -1), z(1, -1)), of(z(1, -1), y(1, -1), x(1, -1), and(x(1, -1), y(1, -1), z(1, -1)))},
		{f, and(or(x(1, 0), y(1, 0)), or(x(1, 0), z(1, 0)), or(y(1, 0), z(1, 0))), and(or(x(1, -1), y(1, -1)), or(x(1, -1), z(1, -1)), or(y(1, -1), z(1, -1))),
			of(x(1, -1), y(1, -1), or(x(1, -1), y(1, -1)), z(1, -1), or(x(1, -1), z(1, -1)), or(y(1, -1), z(1, -1)), and(or(x(1, -1), y(1, -1)), or(x(1, -1), z(1, -1)), or(y(1, -1), z(1, -1))))},
	})
}

// asks fails unless a function is asked of these atoms, in this order, each as it stands in its node.
func asks(t *testing.T, f form, want ...api.Atom) {
	t.Helper()
	a := arena.New(nil)
	id := f(a)
	var got, wanted []string
	_, e := subst.Map(a, id, func(x api.Atom) api.Atom {
		got = append(got, tellAtom(x))
		return x
	})
	for _, x := range want {
		wanted = append(wanted, tellAtom(x))
	}
	if e != api.OK || !slices.Equal(got, wanted) {
		t.Errorf("%v: asked of %q, want %q", e, got, wanted)
	}
}

// The function is asked once for each distinct atom but 0 and 1, kids ahead, with Kind, D and T as they stand.
func TestP123WhatIsAsked(t *testing.T) {
	l := func(k int, parts ...api.Part) api.Atom { return api.Atom{Kind: api.Less, T: sum(k, parts...)} }
	d := func(kind, d, k int, parts ...api.Part) api.Atom {
		return api.Atom{Kind: kind, D: n(d), T: sum(k, parts...)}
	}
	asks(t, never())
	asks(t, always())
	asks(t, and(never(), always()))
	asks(t, x(1, 0), l(0, p(0, 1)))
	asks(t, less(-3, p(2, 4), p(0, -2), p(-5, 6)), l(-1, p(-5, 3), p(0, -1), p(2, 2)))
	asks(t, div(-6, 14, p(1, 4), p(0, -2)), d(api.Div, 3, 2, p(0, 1), p(1, 1)))
	asks(t, not(10, 3, p(most, 1), p(least, 7)), d(api.Not, 10, 7, p(least, 3), p(most, 9)))
	asks(t, or(x(1, 0), never(), and(y(1, 0), always())), l(0, p(0, 1)), l(0, p(1, 1)))
	// In the order of the promise: not that of the numbers, and not the shallow ones ahead.
	asks(t, behind(of(x(1, 0), y(1, 0), z(1, 0)), and(z(1, 0), or(x(1, 0), y(1, 0)))), l(0, p(2, 1)), l(0, p(0, 1)), l(0, p(1, 1)))
	asks(t, behind(of(or(x(1, 0), y(1, 0)), z(1, 0)), and(z(1, 0), or(x(1, 0), y(1, 0)))), l(0, p(0, 1)), l(0, p(1, 1)), l(0, p(2, 1)))
	asks(t, behind(of(x(1, 0), y(1, 0), z(1, 0), x(1, 9)), and(or(y(1, 0), x(1, 9)), or(z(1, 0), x(1, 0)))), l(0, p(1, 1)), l(9, p(0, 1)), l(0, p(0, 1)), l(0, p(2, 1)))
	// Once, at however many places an atom hangs.
	asks(t, and(or(x(1, 0), y(1, 0)), or(x(1, 0), z(1, 0)), or(y(1, 0), z(1, 0)), x(1, 0)), l(0, p(0, 1)), l(0, p(1, 1)), l(0, p(2, 1)))
	asks(t, and(or(and(x(1, 0), y(1, 0)), z(1, 0)), or(and(x(1, 0), y(1, 0)), z(1, 8))), l(0, p(0, 1)), l(0, p(1, 1)), l(0, p(2, 1)), l(8, p(2, 1)))
	// What came of an atom is not asked of again.
	a, asked := arena.New(nil), 0
	id := and(x(1, 0), y(1, 0), x(1, -1))(a)
	if _, e := subst.Map(a, id, func(x api.Atom) api.Atom { asked++; return shift(x) }); e != api.OK || asked != 3 {
		t.Errorf("asked %d times, %v", asked, e)
	}
	// Each call asks anew.
	if _, e := subst.Map(a, id, func(x api.Atom) api.Atom { asked++; return shift(x) }); e != api.OK || asked != 6 {
		t.Errorf("asked %d times in all, %v", asked, e)
	}
}

// What is answered may be raw, or a constant, whatever its other fields are.
func TestP123WhatIsAnswered(t *testing.T) {
	raw := api.Atom{Kind: api.Less, D: n(7), T: api.Term{Parts: []api.Part{p(1, 6), p(0, 3), {Var: 1, C: api.Int{Neg: true, Mag: []uint32{3, 0}}}, p(5, 0)}, K: api.Int{Mag: []uint32{4, 0, 0}}}}
	want := less(2, p(0, 1), p(1, 1))
	fixed := func(x api.Atom) call { return mapped(func(api.Atom) api.Atom { return x }) }
	both := and(x(1, 0), y(1, 0))
	makeAll(t, []making{
		{fixed(raw), x(1, 0), want, of(want)}, {fixed(raw), both, want, of(want)},
		{fixed(api.Atom{Kind: api.Div, D: n(-6), T: sum(2, p(0, 4))}), both, div(3, 2, p(0, 1)), of(div(3, 2, p(0, 1)))},
		{fixed(api.Atom{}), both, never(), nil}, {fixed(api.Atom{Kind: api.True}), both, always(), nil}, {fixed(api.Atom{Kind: api.True, D: n(4), T: raw.T}), or(x(1, 0), y(1, 0)), always(), nil}, {fixed(api.Atom{Kind: api.False, D: n(4), T: raw.T}), x(1, 0), never(), nil},
		{fixed(api.Atom{Kind: api.Less, T: sum(3)}), both, always(), nil}, {fixed(api.Atom{Kind: api.Div, D: n(5), T: sum(3)}), both, never(), nil}, {fixed(api.Atom{Kind: api.Not, D: n(5), T: sum(3, p(0, 5))}), both, always(), nil},
		// One of them alone.
		{mapped(func(x api.Atom) api.Atom {
			if x.T.Parts[0].Var == 0 {
				return api.Atom{Kind: api.True}
			}
			return x
		}), and(or(x(1, 0), z(1, 0)), y(1, 0)), y(1, 0), nil},
	})
}

// An atom that atom.Norm refuses is refused by its error, and ends it: what was made stays, and nothing more is asked.
func TestP123Refused(t *testing.T) {
	for _, l := range []struct {
		answer api.Atom
		e      api.Errno
	}{
		{api.Atom{Kind: 9}, api.ErrArg}, {api.Atom{Kind: -1}, api.ErrArg}, {api.Atom{Kind: api.And}, api.ErrArg}, {api.Atom{Kind: api.Some, T: sum(0, p(0, 1))}, api.ErrArg}, {api.Atom{Kind: most}, api.ErrArg}, {api.Atom{Kind: least}, api.ErrArg},
		{api.Atom{Kind: api.Div, T: sum(0, p(0, 1))}, api.ErrZero}, {api.Atom{Kind: api.Not, T: sum(0, p(0, 1))}, api.ErrZero}, {api.Atom{Kind: api.Div, D: api.Int{Neg: true, Mag: []uint32{0, 0}}}, api.ErrZero},
		{api.Atom{Kind: api.Less, T: api.Term{Parts: []api.Part{p(0, 1)}, K: wide(9)}}, api.ErrLimbs},
	} {
		for last := range 4 {
			a, asked := arena.New(nil), 0
			id := and(x(1, 5), or(y(1, 5), z(1, 5)), less(5, p(3, 1)))(a)
			was := a.Len()
			got, e := subst.Map(a, id, func(x api.Atom) api.Atom {
				asked++
				if asked > last {
					return l.answer
				}
				return shift(x)
			})
			// Behind the third atom the Or was made, too.
			made := last + last/3
			if got != 0 || e != l.e || asked != last+1 || a.Len() != was+made {
				t.Errorf("%s at %d: %d, %v, asked %d times, %d made", tellAtom(l.answer), last, got, e, asked, a.Len()-was)
			}
		}
	}
}

// The errors stand in the order of the promise: ErrArg, ErrNode, ErrQuant; none of them asks or makes anything.
func TestP123ErrorsInOrder(t *testing.T) {
	a := arena.New(nil)
	ids := layAll(a, of(x(1, 0), some(1, x(1, 0)), all(0, never()), and(x(1, 0), some(1, x(1, 0))), or(y(1, 0), and(z(1, 0), all(0, always()))), some(0, some(0, x(1, 0)))))
	was, asked := tellArena(a), 0
	f := func(x api.Atom) api.Atom { asked++; return x }
	for _, l := range []struct {
		a  *arena.Arena
		id int
		f  func(api.Atom) api.Atom
		e  api.Errno
	}{
		{nil, 0, nil, api.ErrArg}, {nil, 0, f, api.ErrArg}, {nil, -1, f, api.ErrArg}, {nil, 2, f, api.ErrArg}, {a, ids[0], nil, api.ErrArg}, {a, 0, nil, api.ErrArg}, {a, ids[1], nil, api.ErrArg}, {a, -1, nil, api.ErrArg}, {a, a.Len(), nil, api.ErrArg},
		{a, -1, f, api.ErrNode}, {a, a.Len(), f, api.ErrNode}, {a, most, f, api.ErrNode}, {a, ids[1], f, api.ErrQuant}, {a, ids[2], f, api.ErrQuant}, {a, ids[3], f, api.ErrQuant}, {a, ids[4], f, api.ErrQuant}, {a, ids[5], f, api.ErrQuant},
	} {
		if got, e := subst.Map(l.a, l.id, l.f); got != 0 || e != l.e {
			t.Errorf("Map of %d: %d, %v, want %v", l.id, got, e, l.e)
		}
	}
	if tellArena(a) != was || asked != 0 {
		t.Errorf("asked %d times, in\n%s", asked, tellArena(a))
	}
}
