package limit_test

import (
	"testing"

	"riddle/api"
	"riddle/arena"
	"riddle/limit"
)

// turns fails unless a formula comes to one formula far below and to another one far above, and nothing is made for
// either.
func turns(t *testing.T, f, below, above form) {
	t.Helper()
	makeAll(t, []making{{low(), f, below, nil}, {high(), f, above, nil}})
}

// A Less whose term grows with the variable is false far below and true far above; one whose term falls is the other way
// round: whatever the coefficient is, and whatever else there is.
func TestP141Less(t *testing.T) {
	for _, f := range []form{x(1, 0), x(1, -9), x(1, 9), xy(1, 5, 0), xy(1, -5, 3), xy(2, 1, 0), xy(5, -3, -7), less(4, p(-1, 3), p(0, 7), p(1, -2)), less(0, p(least, 1), p(0, 1), p(most, 1)), less(0, p(least, -4), p(0, 3), p(most, -4))} {
		turns(t, f, never(), always())
	}
	for _, f := range []form{x(-1, 0), x(-1, -9), x(-1, 9), xy(-1, 5, 0), xy(-1, -5, 3), xy(-2, 1, 0), xy(-5, 3, -7), less(4, p(-1, 3), p(0, -7), p(1, -2)), less(0, p(least, 1), p(0, -1), p(most, 1)), less(0, p(least, 4), p(0, -3), p(most, 4))} {
		turns(t, f, always(), never())
	}
	// Great coefficients, and great numbers beside them.
	for l := 1; l <= api.MaxLimbs; l++ {
		for _, c := range []api.Int{wide(l), widest(l), n(1)} {
			for _, k := range []api.Int{n(0), widest(l), opposite(widest(l))} {
				turns(t, bigLess(k, big(0, c), big(1, opposite(widest(l))), p(2, 1)), never(), always())
				turns(t, bigLess(k, big(0, opposite(c)), big(1, widest(l)), p(2, -1)), always(), never())
			}
		}
	}
}

// What stays: a Less without the variable, and each Div and Not, with it and without it; a constant.
func TestP141WhatStays(t *testing.T) {
	stays(t, y(1, 0), y(-1, 5), less(3, p(1, 4), p(2, 3)), less(3, p(-1, -4), p(most, 3)), bigLess(widest(8), big(1, widest(8)), p(2, 1)),
		// The part of it was 0, and is gone by the atom's form.
		less(0, p(0, 3), p(1, 1), p(0, -3)), less(0, p(0, 0), p(1, 1)),
		div(7, 1, p(0, 1)), div(7, 1, p(0, 3)), div(7, 1, p(0, -3), p(1, 1)), not(7, 1, p(0, 1)), not(7, 1, p(0, 3)), not(2, 0, p(0, 1), p(1, 1)), div(5, 1, p(1, 2)), not(5, 1, p(1, 2)), bigDiv(widest(8), n(1), p(0, 1)), bigNot(widest(8), n(1), p(0, 1)),
		never(), always(),
		and(y(1, 0), div(3, 0, p(0, 1))), or(y(1, 0), not(3, 0, p(0, 1))), or(y(1, 0), and(not(6, 1, p(0, 1)), z(1, 0)), and(div(4, 1, p(0, 1)), z(-1, 5))),
	)
}

// In an And, an Or the constants that come are left out, or are all that is left.
func TestP141Joined(t *testing.T) {
	three, notTwo := div(3, 0, p(0, 1)), not(2, 1, p(0, 1))
	turns(t, and(x(1, 0), y(1, 0)), never(), y(1, 0))
	turns(t, and(x(-1, 0), y(1, 0)), y(1, 0), never())
	turns(t, or(x(1, 0), y(1, 0)), y(1, 0), always())
	turns(t, or(x(-1, 0), y(1, 0)), always(), y(1, 0))
	turns(t, and(x(1, 0), x(-1, 9)), never(), never())
	turns(t, or(x(1, 0), x(-1, 0)), always(), always())
	turns(t, and(x(1, 0), xy(1, 1, 0)), never(), always())
	turns(t, or(x(-1, 0), xy(-5, 1, 0)), always(), never())
	turns(t, and(x(1, 0), three), never(), three)
	turns(t, or(x(1, 0), notTwo), notTwo, always())
	turns(t, or(x(1, 0), never()), never(), always())
	turns(t, and(x(1, 0), always()), never(), always())
	turns(t, and(x(1, 0), never()), never(), never())
	turns(t, or(x(1, 0), always()), always(), always())
	turns(t, or(and(x(1, 0), y(1, 0)), and(x(-1, 0), z(1, 0))), z(1, 0), y(1, 0))
	turns(t, and(or(x(1, 0), y(1, 0)), or(x(-1, 0), z(1, 0))), y(1, 0), z(1, 0))
	turns(t, behind(of(or(y(1, 0), three)), or(and(x(1, 0), or(y(1, 0), x(-1, 3))), three)), three, or(y(1, 0), three))
}

// What is left is made, where it isn't there yet.
func TestP141WhatIsMade(t *testing.T) {
	three := div(3, 0, p(0, 1))
	for _, row := range []struct {
		f, came form
		news    []form
	}{
		{and(x(-1, 0), y(1, 0), three), and(y(1, 0), three), of(and(y(1, 0), three))},
		{or(x(1, 0), y(1, 0), three), or(y(1, 0), three), of(or(y(1, 0), three))},
		{and(xy(-5, 1, 3), xy(-2, -1, 0), y(1, 0), z(1, 0)), and(y(1, 0), z(1, 0)), of(and(y(1, 0), z(1, 0)))},
		{behind(of(and(y(1, 0), z(1, 0))), and(x(-1, 0), y(1, 0), z(1, 0))), and(y(1, 0), z(1, 0)), nil},
		// Joined anew it may be simpler.
		{and(x(-1, 0), y(1, 0), y(1, -3)), y(1, -3), nil}, {or(x(1, 0), y(1, 0), y(1, -3)), y(1, 0), nil}, {and(x(-1, 0), y(1, 0), y(-1, 1)), never(), nil}, {or(x(1, 0), three, not(3, 0, p(0, 1))), always(), nil}, {and(y(1, 0), y(1, -3)), y(1, -3), nil},
		{and(x(-1, 0), y(1, 0), or(y(1, 0), three)), y(1, 0), nil}, {and(y(1, 0), or(x(1, 0), y(1, 0))), y(1, 0), nil},
		{and(x(-1, 0), and(y(1, 0), three)), and(y(1, 0), three), nil}, {and(z(1, 0), or(x(1, 0), and(y(1, 0), three))), and(z(1, 0), y(1, 0), three), of(and(z(1, 0), y(1, 0), three))},
		// One atom at several places.
		{and(or(x(1, 0), y(1, 0)), or(x(1, 0), z(1, 0)), or(y(1, 0), z(1, 0))), and(y(1, 0), z(1, 0)), of(and(y(1, 0), z(1, 0)))},
		{or(and(x(-1, 0), y(1, 0), three), and(x(-1, 0), z(1, 0), three), x(1, 0)), or(and(y(1, 0), three), and(z(1, 0), three)), of(and(y(1, 0), three), and(z(1, 0), three), or(and(y(1, 0), three), and(z(1, 0), three)))},
	} {
		makeAll(t, []making{{low(), row.f, row.came, row.news}})
	}
	// The same of the opposite side.
	makeAll(t, []making{
		{high(), and(x(1, 0), y(1, 0), three), and(y(1, 0), three), of(and(y(1, 0), three))},
		{high(), or(x(-1, 0), y(1, 0), three), or(y(1, 0), three), of(or(y(1, 0), three))},
		{high(), or(and(x(1, 0), y(1, 0), three), and(x(1, 0), z(1, 0), three), x(-1, 0)), or(and(y(1, 0), three), and(z(1, 0), three)), of(and(y(1, 0), three), and(z(1, 0), three), or(and(y(1, 0), three), and(z(1, 0), three)))},
	})
}

// Kids come in the order of their numbers, each with all that hangs below it ahead of the next one, one that hangs at
// several places once.
func TestP141OrderOfMaking(t *testing.T) {
	w := less(0, p(3, 1))
	yz, zw, yw := and(y(1, 0), z(1, 0)), and(z(1, 0), w), and(y(1, 0), w)
	xyz, xzw, xyw := and(x(-1, 0), y(1, 0), z(1, 0)), and(x(-1, 0), z(1, 0), w), and(x(-1, 0), y(1, 0), w)
	beside := and(w, or(yz, zw))
	makeAll(t, []making{
		{low(), or(xyz, xzw), or(yz, zw), of(yz, zw, or(yz, zw))},
		{low(), behind(of(xzw, xyz), or(xyz, xzw)), or(yz, zw), of(zw, yz, or(yz, zw))},
		{low(), behind(of(x(-1, 0), w, z(1, 0), y(1, 0), xyw, xyz, xzw), or(xyz, xzw, xyw)), or(yz, zw, yw), of(yw, yz, zw, or(yz, zw, yw))},
		// What is deep on the one side comes ahead of what is shallow on the other one, if its number is less.
		{low(), or(and(x(-1, 0), w, or(xyz, xzw)), xyw), or(beside, yw), of(yz, zw, or(yz, zw), beside, yw, or(beside, yw))},
		{low(), behind(of(xyw), or(and(x(-1, 0), w, or(xyz, xzw)), xyw)), or(beside, yw), of(yw, yz, zw, or(yz, zw), beside, or(beside, yw))},
		{low(), and(x(-1, 0), w, or(yz, zw)), beside, of(beside)},
		{low(), or(and(xyz, z(-1, 9)), and(xyz, less(0, p(4, 1)))), or(and(y(1, 0), z(1, 0), z(-1, 9)), and(y(1, 0), z(1, 0), less(0, p(4, 1)))),
			of(yz, and(y(1, 0), z(1, 0), z(-1, 9)), and(y(1, 0), z(1, 0), less(0, p(4, 1))), or(and(y(1, 0), z(1, 0), z(-1, 9)), and(y(1, 0), z(1, 0), less(0, p(4, 1)))))},
	})
}

// Any variable may be far away: also one that is not the first of its term, and one that is nowhere.
func TestP141AnyVariable(t *testing.T) {
	for _, v := range []int{0, 1, 2, -1, most, least} {
		for _, w := range []int{v - 1, v + 1} {
			a := arena.New(nil)
			id := or(less(1, p(v, 2), p(w, 1)), div(7, 1, p(v, 1), p(w, 2)))(a)
			d := div(7, 1, p(v, 1), p(w, 2))(a)
			was := a.Len()
			for i, l := range []struct {
				call func(a *arena.Arena, id, v int) (int, api.Errno)
				v    int
				want int
			}{
				{limit.Low, v, d}, {limit.High, v, 1}, {limit.Low, w, d}, {limit.High, w, 1}, {limit.Low, v + 5, id}, {limit.High, v + 5, id},
			} {
				if got, e := l.call(a, id, l.v); got != l.want || e != api.OK || a.Len() != was {
					t.Errorf("v%d beside v%d, row %d: %d, %v, want %d, in\n%s", v, w, i, got, e, l.want, tellArena(a))
				}
			}
		}
	}
}

// Where the meter is over, what is there, or needs no node, is answered all the same; what isn't there is refused.
func TestP141TheMeterIsOver(t *testing.T) {
	for _, over := range []api.Errno{api.ErrNodes, api.ErrLimbs} {
		a := arena.New(meterOf(t, 9, 1))
		both := and(y(1, 0), z(1, 0))
		ids := layAll(a, of(x(1, 0), both, and(x(1, 0), y(1, 0), z(1, 0)), or(x(1, 0), y(1, 0)), or(x(1, 0), y(1, 0), z(1, 0)), some(1, x(1, 0)), div(3, 1, p(0, 1))))
		if over == api.ErrLimbs {
			a.Atom(api.Atom{Kind: api.Less, T: api.Term{Parts: []api.Part{p(0, 1)}, K: wide(2)}})
		} else {
			a.Bind(api.All, 0, 2)
		}
		was := tellArena(a)
		for i, row := range []struct {
			call     far
			id, want int
			e        api.Errno
		}{
			{low(), ids[0], 0, api.OK}, {high(), ids[0], 1, api.OK}, {low(), ids[1], ids[1], api.OK}, {low(), ids[2], 0, api.OK}, {high(), ids[2], ids[1], api.OK}, {low(), ids[3], y(1, 0)(a), api.OK}, {high(), ids[3], 1, api.OK}, {high(), ids[4], 1, api.OK}, {low(), ids[6], ids[6], api.OK}, {low(), 0, 0, api.OK}, {low(), 1, 1, api.OK},
			{low(), ids[4], 0, over},
		} {
			if got, e := row.call.do(a, row.id, 0); got != row.want || e != row.e {
				t.Errorf("%v, line %d: %s of %d: %d, %v, want %d, in\n%s", over, i, row.call.name, row.id, got, e, row.want, was)
			}
		}
		// Bounds and Delta are nothing to the meter.
		if lower, upper, e := limit.Bounds(a, ids[2], 0); !areTerms(lower, terms(sum(0))) || len(upper) > 0 || e != api.OK {
			t.Errorf("%v: %s, %s, %v", over, tellTerms(lower), tellTerms(upper), e)
		}
		if d, e := limit.Delta(a, ids[6], 0); !isInt(d, n(3)) || e != api.OK {
			t.Errorf("%v: %s, %v", over, tellInt(d), e)
		}
		refuses(t, a, ids[5], 0, api.ErrQuant)
		refuses(t, a, a.Len(), 0, api.ErrNode)
		if tellArena(a) != was {
			t.Errorf("%v: something was made: %s", over, tellArena(a))
		}
	}
}

// A formula whose numbers the meter would refuse now is answered as far as it is there: no number of it is counted anew.
func TestP141GreatNumbersAreThere(t *testing.T) {
	a := arena.New(nil)
	big := bigLess(widest(8), p(1, 1))(a)
	id := laid(a.Join(api.And, x(-1, 0)(a), big))
	if got, e := limit.Low(a, id, 0); got != big || e != api.OK || a.Meter().Over() != api.OK {
		t.Errorf("%d, %v, want %d", got, e, big)
	}
}
