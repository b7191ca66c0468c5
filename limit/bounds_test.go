package limit_test

import (
	"testing"

	"riddle/api"
	"riddle/arena"
)

// A Less that has the variable with the coefficient 1 tells a lower bound, one with -1 an upper one.
func TestP142One(t *testing.T) {
	tellAll(t, []side{
		{x(1, 0), terms(sum(0)), nil}, {x(1, 5), terms(sum(-5)), nil}, {x(1, -5), terms(sum(5)), nil}, {x(-1, 0), nil, terms(sum(0))}, {x(-1, 5), nil, terms(sum(5))}, {x(-1, -5), nil, terms(sum(-5))},
		// A form with a greater coefficient has it no more.
		{x(2, 3), terms(sum(-2)), nil}, {x(-3, 1), nil, terms(sum(1))}, {xy(4, -4, 6), terms(sum(-2, p(1, 1))), nil},
		{xy(1, 1, 0), terms(sum(0, p(1, -1))), nil}, {xy(1, -1, 0), terms(sum(0, p(1, 1))), nil}, {xy(1, -3, 7), terms(sum(-7, p(1, 3))), nil}, {xy(-1, 1, 0), nil, terms(sum(0, p(1, 1)))}, {xy(-1, -3, 7), nil, terms(sum(7, p(1, -3)))},
		{less(4, p(-2, 3), p(0, 1), p(1, -2), p(most, 6)), terms(sum(-4, p(-2, -3), p(1, 2), p(most, -6))), nil}, {less(4, p(-2, 3), p(0, -1), p(1, -2), p(most, 6)), nil, terms(sum(4, p(-2, 3), p(1, -2), p(most, 6)))},
		{and(x(1, 0), x(-1, 9)), terms(sum(0)), terms(sum(9))}, {or(x(1, 0), x(-1, -9)), terms(sum(0)), terms(sum(-9))}, {or(and(x(1, 0), y(1, 0)), and(div(3, 0, p(0, 1)), xy(-1, 2, 0))), terms(sum(0)), terms(sum(0, p(1, 2)))},
		// A bound that is the same from both sides is told on both.
		{and(x(1, -4), x(-1, 4)), terms(sum(4)), terms(sum(4))}, {or(xy(1, -1, 3), xy(-1, 1, -3)), terms(sum(-3, p(1, 1))), terms(sum(-3, p(1, 1)))},
	})
}

// Where the variable is in no Less there are none: whatever else is there.
func TestP142None(t *testing.T) {
	for at, f := range []form{
		never(), always(), y(1, 0), y(-1, 7), less(3, p(1, 4), p(2, 6)), div(6, 1, p(0, 1)), not(6, 5, p(0, 1)), div(35, 0, p(0, 5), p(2, 7)), and(y(1, 0), div(4, 1, p(0, 1))), or(y(1, 0), and(less(0, p(1, 3), p(2, 5)), not(7, 1, p(0, 3)))), and(never(), y(1, 0)),
		less(0, p(0, 3), p(1, 1), p(0, -3)),
		// What stands beside it in the arena doesn't count.
		behind(of(x(1, 0), x(-1, 4), xy(5, 1, 0), and(x(1, 0), y(1, 0))), y(1, 0)), behind(of(x(1, 0), xy(2, 1, 0)), always()),
	} {
		tells(t, at, f, 0, nil, nil)
	}
	for _, v := range []int{-1, 2, most, least} {
		tells(t, v, and(xy(5, 3, 1), x(1, 0), div(7, 0, p(0, 3), p(1, 2))), v, nil, nil)
	}
}

// They stand by term.Order, not by the numbers of their nodes, nor by the terms of these.
func TestP142InOrder(t *testing.T) {
	consts := of(x(1, 0), x(1, 5), x(1, -3), x(1, -12), x(1, 40))
	lower := terms(sum(-40), sum(-5), sum(0), sum(3), sum(12))
	ups := of(x(-1, 0), x(-1, 5), x(-1, -3), x(-1, -12), x(-1, 40))
	upper := terms(sum(-12), sum(-3), sum(0), sum(5), sum(40))
	for turn := range consts {
		f := append(of(consts[turn:]...), consts[:turn]...)
		g := append(of(ups[turn:]...), ups[:turn]...)
		tells(t, turn, or(f...), 0, lower, nil)
		tells(t, turn, and(g...), 0, nil, upper)
		tells(t, turn, or(append(f, g...)...), 0, lower, upper)
		tells(t, turn, and(append(g, f...)...), 0, lower, upper)
		tells(t, turn, and(or(f[:2]...), or(f[2:]...), and(g[:3]...), or(g[3:]...)), 0, lower, upper)
	}
	// A lesser variable, a lesser coefficient of the same one, parts that end, the lesser constant.
	rows := terms(sum(-9), sum(7), sum(0, p(-1, 5)), sum(0, p(1, -2)), sum(3, p(1, -2)), sum(9, p(1, 1)), sum(0, p(1, 1), p(2, -1)), sum(0, p(1, 1), p(2, 1)), sum(-8, p(1, 3)), sum(0, p(2, -7)), sum(1, p(most, 1)))
	var below, above []form
	for i := range rows {
		// Neither from the first to the last one nor back.
		r := rows[(i*4+2)%len(rows)]
		parts, opposites := []api.Part{p(0, -1)}, []api.Part{p(0, 1)}
		for _, q := range r.Parts {
			parts, opposites = append(parts, q), append(opposites, big(q.Var, opposite(q.C)))
		}
		above, below = append(above, bigLess(r.K, parts...)), append(below, bigLess(opposite(r.K), opposites...))
	}
	tells(t, 10, or(below...), 0, rows, nil)
	tells(t, 11, and(above...), 0, nil, rows)
	tells(t, 12, or(and(below...), and(above...)), 0, rows, rows)
	// The opposite terms' order is neither this one nor that one turned round.
	tells(t, 13, or(xy(1, 1, 0), xy(1, -1, 0), less(0, p(0, 1), p(2, 1)), x(1, 0)), 0, terms(sum(0), sum(0, p(1, -1)), sum(0, p(1, 1)), sum(0, p(2, -1))), nil)
}

// Each stands there once, however often the formula has it: an atom that hangs at several places, atoms of one form.
func TestP142Once(t *testing.T) {
	tellAll(t, []side{
		{and(or(x(1, -1), y(1, 0)), or(x(1, -1), z(1, 0)), or(x(-1, 4), y(1, 0)), or(x(-1, 4), z(1, 0)), x(-1, 4)), terms(sum(1)), terms(sum(4))},
		{or(and(or(x(1, -1), y(1, 0)), z(1, 0)), and(or(x(1, -1), y(1, 0)), z(1, 5)), and(x(1, -1), x(-1, 7))), terms(sum(1)), terms(sum(7))},
		{or(x(1, -1), x(3, -3), x(2, -3), and(x(5, -5), y(1, 0))), terms(sum(1)), nil}, {or(xy(-1, 1, 2), xy(-3, 3, 6), and(xy(-2, 2, 3), y(1, 0)), xy(-2, 2, 4)), nil, terms(sum(2, p(1, 1)))},
		{and(less(0, p(0, 1), p(1, 1)), less(0, p(1, 2), p(0, 2)), less(0, p(0, 3), p(1, 1), p(0, -2))), terms(sum(0, p(1, -1))), nil},
	})
}

// A coefficient that is neither 0 nor 1 nor -1 in a Less is ErrArg, wherever it stands, great ones too, also those that
// end with the limb 1.
func TestP142OtherCoefficients(t *testing.T) {
	a := arena.New(nil)
	coefs := []api.Int{n(2), n(3), n(77), limbs(top), limbs(0, 1), limbs(1, 1), limbs(1, 0, 1), limbs(top, top), wide(8), limbs(1, 0, 0, 0, 0, 0, 0, 1), widest(8)}
	for _, c := range coefs {
		for _, c := range []api.Int{c, opposite(c)} {
			for _, f := range []form{
				bigLess(n(0), big(0, c), p(1, 1)), bigLess(n(5), big(0, c), p(-3, -1)),
				and(bigLess(n(0), big(0, c), p(1, 1)), x(1, 0)), or(x(-1, 4), x(1, 0), bigLess(n(3), big(0, c), p(2, 1))), or(y(1, 0), and(x(1, 0), or(z(1, 0), bigLess(n(0), big(0, c), p(1, 1))))), and(never(), bigLess(n(0), big(0, c), p(1, 1))), or(always(), bigLess(n(0), big(0, c), p(1, 1))),
			} {
				id := f(a)
				was := tellArena(a)
				noBounds(t, a, id, 0, api.ErrArg)
				if tellArena(a) != was {
					t.Errorf("something was made: %s", tellArena(a))
				}
			}
		}
		// Of another variable it doesn't matter.
		tells(t, 0, and(bigLess(n(0), big(0, c), p(1, 1)), y(-1, 4)), 1, terms(bigSum(n(0), big(0, opposite(c)))), terms(sum(4)))
		tells(t, 1, and(bigLess(n(0), big(0, c), p(1, 1)), z(-1, 4)), 2, nil, terms(sum(4)))
		// Nor in a Div, a Not.
		d := widest(8)
		d.Mag[7] = top - 1
		for _, f := range []form{bigDiv(d, n(1), big(0, c)), bigNot(d, n(1), big(0, c)), bigDiv(d, n(1), big(0, c), p(1, 1)), bigNot(d, n(1), p(-1, 1), big(0, c))} {
			tells(t, 2, f, 0, nil, nil)
			tells(t, 3, and(x(1, 0), f, x(-1, 4)), 0, terms(sum(0)), terms(sum(4)))
		}
	}
}

// Great numbers, as great as may stand in a node; an opposite has as many limbs.
func TestP142GreatNumbers(t *testing.T) {
	for l := 1; l <= api.MaxLimbs; l++ {
		for _, c := range []api.Int{wide(l), widest(l)} {
			o := opposite(c)
			tellAll(t, []side{
				{bigLess(c, p(0, 1)), terms(bigSum(o)), nil}, {bigLess(o, p(0, 1)), terms(bigSum(c)), nil}, {bigLess(c, p(0, -1)), nil, terms(bigSum(c))}, {bigLess(o, p(0, -1)), nil, terms(bigSum(o))},
				{bigLess(c, p(0, 1), big(1, o)), terms(bigSum(o, big(1, c))), nil}, {bigLess(o, p(0, -1), big(1, c), big(2, o)), nil, terms(bigSum(o, big(1, c), big(2, o)))},
				{or(bigLess(c, p(0, 1)), bigLess(o, p(0, 1)), x(1, 0)), terms(bigSum(o), sum(0), bigSum(c)), nil},
			})
		}
	}
}

// Any variable may have bounds: also one that is not the first of its term.
func TestP142AnyVariable(t *testing.T) {
	for _, v := range []int{0, 1, 2, -1, most, least} {
		for _, w := range []int{v - 1, v + 1} {
			f := and(less(1, p(v, 1), p(w, 3)), less(2, p(v, -1), p(w, 1)), less(4, p(w, -1)))
			tells(t, 0, f, v, terms(sum(-1, p(w, -3))), terms(sum(2, p(w, 1))))
			a := arena.New(nil)
			noBounds(t, a, f(a), w, api.ErrArg)
			tells(t, 1, and(less(2, p(v, -1), p(w, 1)), less(4, p(w, -1))), w, terms(sum(-2, p(v, 1))), terms(sum(4)))
		}
	}
}
