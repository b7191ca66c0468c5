package unit_test

import (
	"testing"

	"riddle/api"
	"riddle/arena"
	"riddle/unit"
)

// two and six are what stands beside a formula with that L.

func two() form { return div(2, 0, p(0, 1)) }

func six() form { return div(6, 0, p(0, 1)) }

// beside is a formula whose L is above 1 and of which one atom comes: that atom, the divisibility, and both are made.
func beside(f form, l int, came form) making {
	d := div(l, 0, p(0, 1))
	return making{f, n(l), and(came, d), of(came, d, and(came, d))}
}

// An atom alone, of each kind, with the variable's coefficient on either side of 0.
func TestP132Atoms(t *testing.T) {
	makeAll(t, []making{
		beside(xy(2, 1, 0), 2, xy(1, 1, 0)), beside(xy(-2, 1, 0), 2, xy(-1, 1, 0)), beside(xy(2, -3, 5), 2, xy(1, -3, 5)), beside(xy(-12, 35, -3), 12, xy(-1, 35, -3)), beside(less(7, p(-1, 4), p(0, -3), p(1, 9)), 3, less(7, p(-1, 4), p(0, -1), p(1, 9))),
		beside(div(7, 1, p(0, 3)), 3, div(7, 1, p(0, 1))), beside(not(7, 1, p(0, 3)), 3, not(7, 1, p(0, 1))), beside(div(7, 1, p(0, -3), p(1, 1)), 3, div(7, 6, p(0, 1), p(1, 6))), beside(not(11, 10, p(0, 5), p(1, 7)), 5, not(11, 10, p(0, 1), p(1, 7))), beside(div(5, 0, p(0, 2)), 2, div(5, 0, p(0, 1))),
	})
}

// The others' coefficients and the constant, and the D of a Div, a Not, are taken so many times as the variable's is in L.
func TestP132SoManyTimes(t *testing.T) {
	join := func(l ...form) form { return and(append(l, six())...) }
	row := func(f form, l ...form) making {
		both := and(l...)
		return making{f, n(6), join(l...), append(of(l...), both, six(), join(l...))}
	}
	makeAll(t, []making{
		row(and(xy(2, 1, 5), xy(3, 1, 5)), xy(1, 3, 15), xy(1, 2, 10)), row(and(xy(-2, 1, 5), xy(3, -1, -5)), xy(-1, 3, 15), xy(1, -2, -10)), row(and(xy(6, 5, 7), xy(-3, 4, 0)), xy(1, 5, 7), xy(-1, 8, 0)), row(and(x(1, 4), xy(-6, 1, 0)), x(1, 24), xy(-1, 1, 0)), row(and(x(-1, 4), xy(6, 1, -1)), x(-1, 24), xy(1, 1, -1)),
		row(and(xy(2, 1, 0), div(7, 2, p(0, 3), p(1, 4))), xy(1, 3, 0), div(14, 4, p(0, 1), p(1, 8))), row(and(xy(2, 1, 0), not(7, 2, p(0, 3), p(1, 4))), xy(1, 3, 0), not(14, 4, p(0, 1), p(1, 8))),
		row(and(xy(6, 1, 0), div(4, 3, p(0, 1))), xy(1, 1, 0), div(24, 18, p(0, 1))), row(and(xy(6, 1, 0), not(4, 3, p(0, 1))), xy(1, 1, 0), not(24, 18, p(0, 1))), row(and(div(5, 4, p(0, 2)), not(7, 3, p(0, 3))), div(15, 12, p(0, 1)), not(14, 6, p(0, 1))),
		row(and(less(3, p(-2, 5), p(0, 2), p(4, 7)), less(-4, p(-2, -1), p(0, -3), p(4, -2))), less(9, p(-2, 15), p(0, 1), p(4, 21)), less(-8, p(-2, -2), p(0, -1), p(4, -4))),
	})
}

// An atom without the variable stays as it is: it is taken no times, whatever L is.
func TestP132WithoutTheVariable(t *testing.T) {
	came := or(xy(1, 1, 0), and(y(1, 4), div(5, 1, p(1, 1))))
	makeAll(t, []making{
		itself(y(1, 4)), itself(div(5, 1, p(1, 2))), itself(not(5, 1, p(1, 2))), itself(and(y(1, 4), less(3, p(1, 4), p(2, 3)))), itself(or(y(1, 4), and(not(6, 1, p(1, 1)), less(0, p(2, 1))))),
		{and(xy(2, 1, 0), y(1, 4)), n(2), and(xy(1, 1, 0), y(1, 4), two()), of(xy(1, 1, 0), and(xy(1, 1, 0), y(1, 4)), two(), and(xy(1, 1, 0), y(1, 4), two()))},
		{or(xy(2, 1, 0), and(y(1, 4), div(5, 1, p(1, 1)))), n(2), and(came, two()), of(xy(1, 1, 0), came, two(), and(came, two()))},
		{or(xy(2, 1, 0), not(9, 1, p(1, 3), p(2, 1))), n(2), and(or(xy(1, 1, 0), not(9, 1, p(1, 3), p(2, 1))), two()), of(xy(1, 1, 0), or(xy(1, 1, 0), not(9, 1, p(1, 3), p(2, 1))), two(), and(or(xy(1, 1, 0), not(9, 1, p(1, 3), p(2, 1))), two()))},
	})
}

// With the L 1 no Div is made: what comes is the formula joined anew.
func TestP132LOfOne(t *testing.T) {
	makeAll(t, []making{
		itself(never()), itself(always()), itself(x(1, 0)), itself(x(-1, 3)), itself(xy(1, 5, 0)), itself(xy(-1, 5, 0)), itself(div(7, 1, p(0, 1))), itself(not(7, 1, p(0, 1), p(1, 4))), itself(and(x(1, 0), x(-1, 9), y(1, 0))), itself(or(x(1, 0), and(x(-1, -9), div(4, 1, p(0, 1))))),
		// These could be simpler from the beginning on.
		{and(x(1, 0), always()), n(1), x(1, 0), nil}, {or(x(1, 0), x(-1, 3)), n(1), always(), nil}, {and(x(1, 0), x(-1, 1)), n(1), never(), nil}, {and(y(1, 0), y(1, -3)), n(1), y(1, -3), nil}, {and(x(1, 0), and(y(1, 0), div(3, 0, p(0, 1)))), n(1), and(x(1, 0), y(1, 0), div(3, 0, p(0, 1))), of(and(x(1, 0), y(1, 0), div(3, 0, p(0, 1))))},
		{or(never(), y(1, 0)), n(1), y(1, 0), nil}, {and(never(), x(1, 0)), n(1), never(), nil},
	})
}

// The formula may be an And, an Or, or come to a constant: the node of the Div is made all the same, behind all of U.
func TestP132WhatUIs(t *testing.T) {
	either := or(xy(1, 1, 0), xy(1, 1, 7))
	makeAll(t, []making{
		{and(xy(2, 1, 0), xy(2, 5, 0)), n(2), and(xy(1, 1, 0), xy(1, 5, 0), two()), of(xy(1, 1, 0), xy(1, 5, 0), and(xy(1, 1, 0), xy(1, 5, 0)), two(), and(xy(1, 1, 0), xy(1, 5, 0), two()))},
		{or(xy(2, 1, 0), xy(2, 5, 0)), n(2), and(or(xy(1, 1, 0), xy(1, 5, 0)), two()), of(xy(1, 1, 0), xy(1, 5, 0), or(xy(1, 1, 0), xy(1, 5, 0)), two(), and(or(xy(1, 1, 0), xy(1, 5, 0)), two()))},
		// False, and True.
		{and(xy(2, 1, 0), xy(-2, -1, 1)), n(2), never(), of(xy(1, 1, 0), xy(-1, -1, 1), two())}, {or(xy(2, 1, 0), xy(-2, -1, 1)), n(2), two(), of(xy(1, 1, 0), xy(-1, -1, 1), two())}, {and(xy(2, 1, 0), never()), n(2), never(), of(xy(1, 1, 0), two())}, {or(xy(2, 1, 0), always()), n(2), two(), of(xy(1, 1, 0), two())},
		{and(div(5, 1, p(0, 2)), not(5, 1, p(0, 2))), n(2), never(), of(div(5, 1, p(0, 1)), not(5, 1, p(0, 1)), two())}, {or(div(5, 1, p(0, 2)), not(5, 1, p(0, 2))), n(2), two(), of(div(5, 1, p(0, 1)), not(5, 1, p(0, 1)), two())},
		// What comes is made simpler: the one with the least, the greatest constant stays; one that adds nothing is left out.
		{and(xy(2, 1, 0), xy(2, 1, 7)), n(2), and(xy(1, 1, 0), two()), of(xy(1, 1, 0), xy(1, 1, 7), two(), and(xy(1, 1, 0), two()))}, {or(xy(2, 1, 0), xy(2, 1, 7)), n(2), and(xy(1, 1, 7), two()), of(xy(1, 1, 0), xy(1, 1, 7), two(), and(xy(1, 1, 7), two()))},
		{and(xy(2, 3, 0), or(xy(4, 6, 0), y(1, 0))), n(2), and(xy(1, 3, 0), two()), of(xy(1, 3, 0), or(xy(1, 3, 0), y(1, 0)), two(), and(xy(1, 3, 0), two()))},
		{and(xy(2, 1, 0), and(xy(2, 5, 0), y(1, 0))), n(2), and(xy(1, 1, 0), xy(1, 5, 0), y(1, 0), two()), of(xy(1, 1, 0), xy(1, 5, 0), and(xy(1, 5, 0), y(1, 0)), and(xy(1, 1, 0), xy(1, 5, 0), y(1, 0)), two(), and(xy(1, 1, 0), xy(1, 5, 0), y(1, 0), two()))},
		// Some of it is there already: the brought atom, what it is joined to, the Div.
		{behind(of(xy(1, 1, 0)), xy(2, 1, 0)), n(2), and(xy(1, 1, 0), two()), of(two(), and(xy(1, 1, 0), two()))}, {behind(of(two()), xy(2, 1, 0)), n(2), and(xy(1, 1, 0), two()), of(xy(1, 1, 0), and(xy(1, 1, 0), two()))}, {behind(of(and(xy(1, 1, 0), two())), xy(2, 1, 0)), n(2), and(xy(1, 1, 0), two()), nil}, {behind(of(either), or(xy(2, 1, 0), xy(2, 1, 7))), n(2), and(xy(1, 1, 7), two()), of(two(), and(xy(1, 1, 7), two()))},
		// The formula itself has what comes of another atom.
		{and(xy(2, 1, 0), xy(1, 2, 0)), n(2), and(xy(1, 1, 0), xy(1, 4, 0), two()), of(xy(1, 1, 0), xy(1, 4, 0), and(xy(1, 1, 0), xy(1, 4, 0)), two(), and(xy(1, 1, 0), xy(1, 4, 0), two()))}, {or(xy(2, 1, 0), and(xy(1, 1, 0), y(1, 0))), n(2), and(or(xy(1, 1, 0), and(xy(1, 2, 0), y(1, 0))), two()), of(xy(1, 2, 0), and(xy(1, 2, 0), y(1, 0)), or(xy(1, 1, 0), and(xy(1, 2, 0), y(1, 0))), two(), and(or(xy(1, 1, 0), and(xy(1, 2, 0), y(1, 0))), two()))},
	})
}

// Kids come in the order of their numbers, each with all that hangs below it ahead of the next one, one that hangs at
// several places once; the Div and the And stand behind all of these.
func TestP132OrderOfMaking(t *testing.T) {
	a, b, c := xy(2, 1, 0), xy(2, 3, 0), xy(2, 5, 0)
	ua, ub, uc := xy(1, 1, 0), xy(1, 3, 0), xy(1, 5, 0)
	row := func(f, came form, news ...form) making {
		return making{f, n(2), and(came, two()), append(news, two(), and(came, two()))}
	}
	pairs := and(or(ua, ub), or(ua, uc), or(ub, uc))
	makeAll(t, []making{
		row(behind(of(a, b, c), or(c, and(a, b))), or(uc, and(ua, ub)), uc, ua, ub, and(ua, ub), or(uc, and(ua, ub))),
		row(behind(of(c, b, a), or(a, b, c)), or(ua, ub, uc), uc, ub, ua, or(ua, ub, uc)),
		row(behind(of(and(a, b), c), or(c, and(a, b))), or(uc, and(ua, ub)), ua, ub, and(ua, ub), uc, or(uc, and(ua, ub))),
	})
	m := making{and(or(a, b), or(a, c), or(b, c)), n(2), and(or(ua, ub), or(ua, uc), or(ub, uc), two()), of(ua, ub, or(ua, ub), uc, or(ua, uc), or(ub, uc), pairs, two(), and(or(ua, ub), or(ua, uc), or(ub, uc), two()))}
	m.makes(t, 3)
}

// Any variable may be brought to the coefficient 1: also one that is not the first of its term.
func TestP132AnyVariable(t *testing.T) {
	for _, v := range []int{0, 1, 2, -1, most, least} {
		for _, w := range []int{v - 1, v + 1} {
			a := arena.New(nil)
			id := and(less(1, p(v, 2), p(w, 1)), less(2, p(v, -3), p(w, 1)))(a)
			got, l, e := unit.Unit(a, id, v)
			want := and(less(3, p(v, 1), p(w, 3)), less(4, p(v, -1), p(w, 2)), div(6, 0, p(v, 1)))(a)
			if got != want || !isInt(l, n(6)) || e != api.OK {
				t.Errorf("v%d beside v%d: %d, %s, %v, want %d, in\n%s", v, w, got, tellInt(l), e, want, tellArena(a))
			}
			// The other one has the coefficient 1 there.
			if got, l, e := unit.Unit(a, id, w); got != id || !isInt(l, n(1)) || e != api.OK {
				t.Errorf("v%d beside v%d: %d, %s, %v", w, v, got, tellInt(l), e)
			}
		}
	}
	// Divisibilities of which another variable is the first one.
	for at, row := range []struct {
		f    form
		l    int
		want form
	}{
		{div(7, 0, p(0, 3), p(1, 2)), 2, and(div(7, 0, p(0, 3), p(1, 1)), div(2, 0, p(1, 1)))}, {not(7, 4, p(0, 1), p(1, 6)), 6, and(not(7, 4, p(0, 1), p(1, 1)), div(6, 0, p(1, 1)))}, {div(8, 1, p(0, 4), p(1, 3)), 3, and(div(8, 1, p(0, 4), p(1, 1)), div(3, 0, p(1, 1)))},
		{and(div(7, 0, p(0, 3), p(1, 2)), less(0, p(1, 5), p(2, 1))), 10, and(div(35, 0, p(0, 15), p(1, 1)), less(0, p(1, 1), p(2, 2)), div(10, 0, p(1, 1)))},
	} {
		a := arena.New(nil)
		id := row.f(a)
		got, l, e := unit.Unit(a, id, 1)
		if want := row.want(a); got != want || !isInt(l, n(row.l)) || e != api.OK {
			t.Errorf("row %d: %d, %s, %v, want %d, in\n%s", at, got, tellInt(l), e, want, tellArena(a))
		}
	}
}

// Great numbers, as great as may stand in a node.
func TestP132GreatNumbers(t *testing.T) {
	for l := 1; l <= api.MaxLimbs; l++ {
		c := widest(l)
		d, far := bigDiv(c, n(0), p(0, 1)), bigLess(c, p(0, -1))
		up, down := xy(1, 1, 0), xy(-1, 1, 0)
		makeAll(t, []making{
			{bigLess(n(0), big(0, c), p(1, 1)), c, and(up, d), of(up, d, and(up, d))},
			{bigLess(n(0), big(0, opposite(c)), p(1, 1)), c, and(down, d), of(down, d, and(down, d))},
			{and(bigLess(n(0), big(0, c), p(1, 1)), x(-1, 1)), c, and(up, far, d), of(up, far, and(up, far), d, and(up, far, d))},
		})
	}
	f, d := bigLess(n(5), big(0, wide(2)), p(1, 1)), bigDiv(wide(2), n(0), p(0, 1))
	near, far, five := xy(1, 1, 5), bigLess(limbs(0, 7), p(0, -1)), bigDiv(limbs(0, 5), limbs(0, 2), p(0, 1))
	makeAll(t, []making{
		{and(f, x(-1, 7)), wide(2), and(near, far, d), of(near, far, and(near, far), d, and(near, far, d))},
		{and(f, div(5, 2, p(0, 1))), wide(2), and(near, five, d), of(near, five, and(near, five), d, and(near, five, d))},
	})
}

// The errors stand in the order of the promises: ErrArg, ErrNode, ErrQuant; none of them makes anything. A quantifier
// counts wherever it is, also one that binds the variable, or nothing.
func TestErrorsInOrder(t *testing.T) {
	a := arena.New(nil)
	f := xy(2, 1, 0)
	bound := layAll(a, of(some(0, f), all(0, f), some(1, f), all(1, f), some(5, f), some(0, never()), all(3, always()), and(f, some(1, f)), or(f, and(y(1, 0), all(0, y(1, 0)))), or(x(1, 0), and(y(1, 0), or(y(1, 5), some(2, y(1, 0))))), some(0, all(1, f))))
	for _, v := range []int{0, 1, 2, 7, -1, most, least} {
		for _, id := range []int{0, 1, 2, -1, a.Len(), most, least} {
			refuses(t, nil, id, v, api.ErrArg)
		}
		for _, id := range []int{-1, -2, least, a.Len(), a.Len() + 1, 2002, most} {
			refuses(t, a, id, v, api.ErrNode)
		}
		for _, id := range bound {
			refuses(t, a, id, v, api.ErrQuant)
		}
	}
	// What is let go is no node any more.
	last := a.Len() - 1
	a.Release(last)
	refuses(t, a, last, 0, api.ErrNode)
	// What stands above the formula, or beside it, is nothing to it.
	if l, e := unit.Lcm(a, f(a), 0); !isInt(l, n(2)) || e != api.OK {
		t.Errorf("below quantifiers: %s, %v", tellInt(l), e)
	}
	if _, l, e := unit.Unit(a, f(a), 0); !isInt(l, n(2)) || e != api.OK {
		t.Errorf("below quantifiers: %s, %v", tellInt(l), e)
	}
}

// A number of more limbs than may be is ErrLimbs, wherever it stands; what was made ahead stays, and nothing else is made.
func TestErrLimbs(t *testing.T) {
	half := limbs(1 << 31)
	for at, l := range []struct {
		f    form
		made []form
	}{
		// Another one's coefficient, a constant, a D, at the first atom and at the second one.
		{and(bigLess(n(0), big(0, half), p(1, 1)), bigLess(n(0), p(0, 1), p(1, 2))), of(xy(1, 1, 0))},
		{and(bigLess(n(0), p(0, 1), p(1, 2)), bigLess(n(0), big(0, half), p(1, 1))), nil},
		{and(bigLess(n(0), big(0, half), p(1, 1)), x(1, 2)), of(xy(1, 1, 0))},
		{and(bigLess(n(0), big(0, half), p(1, 1)), x(-1, -2)), of(xy(1, 1, 0))},
		{and(bigLess(n(0), big(0, half), p(1, 1)), div(2, 0, p(0, 1))), of(xy(1, 1, 0))},
		{and(bigLess(n(0), big(0, half), p(1, 1)), not(2, 0, p(0, 1))), of(xy(1, 1, 0))},
		{or(bigLess(n(0), big(0, half), p(1, 1)), and(y(1, 0), x(1, 2))), of(xy(1, 1, 0))},
		// All atoms are fine, and L is too great: the Div is not made.
		{and(bigLess(n(0), big(0, half), p(1, 1)), xy(3, 1, 0)), of(xy(1, 3, 0), bigLess(n(0), p(0, 1), big(1, half)), and(xy(1, 3, 0), bigLess(n(0), p(0, 1), big(1, half))))},
		{or(bigLess(n(0), big(0, half), p(1, 1)), xy(3, 1, 0)), of(xy(1, 3, 0), bigLess(n(0), p(0, 1), big(1, half)), or(xy(1, 3, 0), bigLess(n(0), p(0, 1), big(1, half))))},
		{and(bigLess(n(0), big(0, half), p(1, 1)), xy(3, 1, 0), never()), of(xy(1, 3, 0), bigLess(n(0), p(0, 1), big(1, half)))},
	} {
		a := arena.New(meterOf(t, 100, 1))
		id := l.f(a)
		was := a.Len()
		got, number, e := unit.Unit(a, id, 0)
		if got != 0 || !isInt(number, n(0)) || e != api.ErrLimbs || a.Meter().Over() != e || a.Len() != was+len(l.made) {
			t.Errorf("row %d: %d, %s, %v, %d made, in\n%s", at, got, tellInt(number), e, a.Len()-was, tellArena(a))
		}
		for i, f := range l.made {
			if id := f(a); id != was+i {
				t.Errorf("row %d: what should be made as number %d is %d", at, was+i, id)
			}
		}
		// With more limbs nothing is refused.
		a = arena.New(meterOf(t, 100, 2))
		if _, _, e := unit.Unit(a, l.f(a), 0); e != api.OK {
			t.Errorf("row %d, with 2 limbs: %v", at, e)
		}
	}
	// Where the brought atoms have no great number L may have any number of limbs, and be refused all the same.
	a := arena.New(nil)
	id := and(bigLess(n(0), big(0, widest(8)), p(1, 1)), bigLess(n(0), big(0, wide(8)), p(1, 1)), x(1, 0))(a)
	was := tellArena(a)
	if l, e := unit.Lcm(a, id, 0); len(l.Mag) != 15 || e != api.OK || tellArena(a) != was {
		t.Errorf("Lcm of great ones: %s, %v", tellInt(l), e)
	}
	if got, l, e := unit.Unit(a, id, 0); got != 0 || !isInt(l, n(0)) || e != api.ErrLimbs || a.Meter().Over() != e {
		t.Errorf("Unit of great ones: %d, %s, %v", got, tellInt(l), e)
	}
}

// Where the meter is over, what is there, or needs no node, is answered all the same; Lcm is nothing to the meter.
func TestTheMeterIsOver(t *testing.T) {
	for _, over := range []api.Errno{api.ErrNodes, api.ErrLimbs} {
		a := arena.New(meterOf(t, 9, 1))
		f, g := xy(2, 1, 0), xy(3, 1, 0)
		ids := layAll(a, of(f, xy(1, 1, 0), two(), and(xy(1, 1, 0), two()), g, y(1, 0), some(1, f), and(f, always()), or(g, never())))
		if over == api.ErrLimbs {
			a.Atom(api.Atom{Kind: api.Less, T: api.Term{Parts: []api.Part{p(0, 1)}, K: wide(2)}})
		} else {
			a.Bind(api.All, 0, 2)
		}
		was := tellArena(a)
		for i, row := range []struct {
			id, want int
			l, lcm   api.Int
			e        api.Errno
		}{
			{ids[0], ids[3], n(2), n(2), api.OK}, {ids[7], ids[3], n(2), n(2), api.OK}, {ids[1], ids[1], n(1), n(1), api.OK}, {ids[3], ids[3], n(1), n(1), api.OK}, {ids[5], ids[5], n(1), n(1), api.OK}, {0, 0, n(1), n(1), api.OK}, {1, 1, n(1), n(1), api.OK},
			// Of these the atom is there, but neither the Div nor the And.
			{ids[4], 0, n(0), n(3), over}, {ids[8], 0, n(0), n(3), over},
		} {
			if got, l, e := unit.Unit(a, row.id, 0); got != row.want || !isInt(l, row.l) || e != row.e {
				t.Errorf("%v, line %d: Unit of %d: %d, %s, %v", over, i, row.id, got, tellInt(l), e)
			}
			if l, e := unit.Lcm(a, row.id, 0); !isInt(l, row.lcm) || e != api.OK {
				t.Errorf("%v, line %d: Lcm of %d: %s, %v", over, i, row.id, tellInt(l), e)
			}
		}
		refuses(t, a, ids[6], 0, api.ErrQuant)
		refuses(t, a, a.Len(), 0, api.ErrNode)
		if tellArena(a) != was {
			t.Errorf("%v: something was made: %s", over, tellArena(a))
		}
	}
}
