package ground_test

import (
	"slices"
	"testing"

	"riddle/api"
	"riddle/arena"
	"riddle/ground"
)

// A free variable without a value: in an atom of each kind, in one kid of many, whichever of several variables it is, and
// with however many others.
func TestP171NoValue(t *testing.T) {
	a := arena.New(nil)
	others := row(val(3, 1), val(-1, 1), val(most, 1), val(least, 1))
	for _, id := range layAll(a, of(x(1, 0), x(-1, 7), div(2, 0, p(0, 1)), not(2, 0, p(0, 1)), and(x(1, 0), x(-1, 9)), or(x(1, 0), div(3, 0, p(0, 1))), and(x(1, 0), or(x(-1, 5), not(7, 1, p(0, 1)))))) {
		refuses(t, a, id, nil, api.ErrArity)
		refuses(t, a, id, row(), api.ErrArity)
		refuses(t, a, id, row(val(1, 4)), api.ErrArity)
		refuses(t, a, id, others, api.ErrArity)
	}
	for _, id := range layAll(a, of(less(0, p(0, 1), p(1, 1), p(2, 1)), div(5, 0, p(0, 1), p(1, 1), p(2, 1)), and(x(1, 0), y(1, 0), z(1, 0)), or(x(1, 0), and(y(1, 0), not(3, 0, p(2, 1)))), and(less(0, p(0, 1), p(2, 1)), less(0, p(1, 1), p(2, -1))))) {
		for _, left := range at(1, 1, 1) {
			vals := slices.DeleteFunc(at(1, 1, 1), func(value api.Value) bool { return value.Var == left.Var })
			refuses(t, a, id, vals, api.ErrArity)
			refuses(t, a, id, slices.Concat(others, vals, vals, others), api.ErrArity)
			if _, e := ground.Eval(a, id, append(vals, left)); e != api.OK {
				t.Errorf("with all values: %v", e)
			}
		}
	}
}

// Also where the formula is true, or false, without it: whether that is known ahead of the kid, or behind.
func TestP171NoValueNeeded(t *testing.T) {
	a, b, idle := x(1, 0), y(1, 0), div(3, 1, p(2, 1))
	for _, l := range []struct {
		of   form
		vals []api.Value
	}{
		{or(a, b), at(1)}, {and(a, b), at(-1)}, {or(a, b), row(val(1, 1))}, {and(a, b), row(val(1, -1))}, {behind(of(b), or(a, b)), at(1)}, {behind(of(b), and(a, b)), at(-1)},
		{or(a, b, idle), at(1, 1)}, {and(a, b, idle), at(-1, -1)}, {behind(of(idle), or(a, b, idle)), at(1, 1)}, {behind(of(idle), and(a, b, idle)), at(-1, -1)},
		{or(always(), a), nil}, {and(never(), a), nil}, {or(always(), and(a, b)), at(1)}, {and(never(), or(a, b)), at(1)}, {and(a, or(b, always())), at(1)}, {or(a, and(b, never())), at(-1)},
		{or(a, and(b, or(idle, b))), at(1, 1)}, {and(a, or(b, and(idle, b))), at(-1, -1)}, {or(a, x(-1, 1)), nil}, {and(a, x(-1, 0)), nil}, {or(and(a, b), and(x(-1, 1), y(1, 0))), at(5)},
	} {
		a := arena.New(nil)
		refuses(t, a, l.of(a), l.vals, api.ErrArity)
	}
}

// A variable whose parts have come to 0 together, or to so many times the divisor, is not free: it needs no value. Nor does
// one that stands beside the formula alone.
func TestP171NotFree(t *testing.T) {
	claims(t, []claim{
		{less(1, p(0, 1), p(0, -1)), rows(nil), nil}, {less(0, p(0, 2), p(1, 1), p(0, -2)), rows(row(val(1, 1))), rows(row(val(1, 0)))}, {div(5, 1, p(0, 5), p(1, 1)), rows(row(val(1, 4))), rows(row(val(1, 0)))}, {not(5, 1, p(0, -10), p(1, 1)), rows(row(val(1, 0))), rows(row(val(1, 4)))},
		{behind(of(y(1, 0), and(x(1, 0), y(1, 0))), x(1, 0)), rows(at(1)), rows(at(0))}, {behind(of(x(1, 0)), always()), rows(nil), nil},
	})
}

// bound are formulas with quantifiers: above all, deep below, which bind what is there or nothing.
func bound() []form {
	f := xy(2, 3, 0)
	return of(some(0, f), all(0, f), some(1, f), all(1, f), some(5, f), some(0, never()), all(3, always()), and(f, some(1, f)), or(f, and(y(1, 0), all(0, y(1, 0)))), or(x(1, 0), and(y(1, 0), or(y(1, 5), some(2, y(1, 0))))), some(0, all(1, f)), or(always(), all(4, f)), and(never(), some(4, f)))
}

// The errors stand in the order of the promises: ErrArg, ErrNode, ErrQuant, ErrArity; with each of them false and 0, and of
// Count the first three also with no rows.
func TestErrorsInOrder(t *testing.T) {
	a := arena.New(nil)
	ids := layAll(a, bound())
	for _, over := range []api.Errno{api.OK, api.ErrNodes} {
		if over != api.OK {
			// Nothing is counted, so that this changes nothing.
			a.Meter().Spend(api.MaxNodes)
		}
		for _, vals := range rows(nil, at(1), at(1, 1, 1, 1, 1, 1), row(val(7, 3))) {
			for _, id := range []int{0, 1, 2, -1, a.Len(), most, least} {
				refuses(t, nil, id, vals, api.ErrArg)
			}
			for _, id := range []int{-1, -2, least, a.Len(), a.Len() + 1, 2002, most} {
				refuses(t, a, id, vals, api.ErrNode)
			}
			for _, id := range ids {
				refuses(t, a, id, vals, api.ErrQuant)
			}
		}
		for _, none := range [][][]api.Value{nil, {}} {
			counts(t, nil, 1, none, 0, api.ErrArg)
			counts(t, nil, -1, none, 0, api.ErrArg)
			counts(t, a, -1, none, 0, api.ErrNode)
			counts(t, a, a.Len(), none, 0, api.ErrNode)
			for _, id := range ids {
				counts(t, a, id, none, 0, api.ErrQuant)
			}
		}
	}
	// What is let go is no node any more; what is left of its kids is one.
	a = arena.New(nil)
	id := and(x(1, 0), y(1, 0))(a)
	a.Release(id)
	refuses(t, a, id, at(1, 1), api.ErrNode)
	refuses(t, a, id, nil, api.ErrNode)
	truth(t, a, id-1, at(1, 1), true, api.OK)
	// What is laid there then is another one.
	if again := or(x(1, 0), y(1, 0))(a); again != id {
		t.Fatalf("%d, want %d", again, id)
	}
	truth(t, a, id, at(1, -1), true, api.OK)
}

// A meter that is over, of whatever bound, changes nothing: nothing is made.
func TestTheMeterIsOver(t *testing.T) {
	for _, over := range []api.Errno{api.ErrNodes, api.ErrLimbs} {
		a := arena.New(meterOf(t, 5, 1))
		id := and(x(1, 0), or(y(1, 0), div(2, 0, p(0, 1))))(a)
		if over == api.ErrLimbs {
			bigLess := api.Atom{Kind: api.Less, T: api.Term{Parts: []api.Part{p(0, 1)}, K: wide(2)}}
			a.Atom(bigLess)
		} else {
			a.Meter().Spend(1)
		}
		if a.Meter().Over() != over || a.Meter().Spent() != 5 {
			t.Fatalf("%d spent, %v", a.Meter().Spent(), a.Meter().Over())
		}
		truth(t, a, id, bigAt(wide(9), n(0)), true, api.OK)
		truth(t, a, id, at(3, 0), false, api.OK)
		refuses(t, a, id, at(3), api.ErrArity)
		counts(t, a, id, rows(at(3, 1), at(3, 0), at(4, -1), at(-4, 1)), 2, api.OK)
	}
}
