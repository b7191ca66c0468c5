package elim_test

import (
	"testing"

	"riddle/api"
	"riddle/arena"
	"riddle/elim"
)

// All is made of an opposite, what comes of that, and its opposite, in this order; its Step is that of the Some within.
func TestP152WhatIsMade(t *testing.T) {
	even, odd := div(2, 0, p(0, 1)), div(2, 1, p(0, 1))
	above, between := and(xy(1, -1, 0), xz(1, -1, 0), xw(-1, 1, 0)), and(yw(-1, 1, -1), zw(-1, 1, -1))
	makeAll(t, []making{
		{allOf(), x(-1, 0), never(), stepOf(1, 1, true, 0), acts(made(x(1, 1)), at())},
		{allOf(), or(not(2, 0, p(0, 1)), not(2, 1, p(0, 1))), always(), stepOf(1, 2, false, 0), acts(made(even, odd, and(even, odd)), points(2))},
		// The Some within looks from above.
		{allOf(), or(xy(-1, 1, 1), xz(-1, 1, 1), xw(1, -1, 1)), or(yw(1, -1, 2), zw(1, -1, 2)), stepOf(1, 1, true, 1), acts(
			made(xy(1, -1, 0), xz(1, -1, 0), xw(-1, 1, 0), above), at(), at(yw(-1, 1, -1), zw(-1, 1, -1), between), made(yw(1, -1, 2), zw(1, -1, 2), or(yw(1, -1, 2), zw(1, -1, 2))))},
		// 3 x is no y: all are on one side of it, unless 3 divides y.
		{allOf(), or(xy(3, -1, 0), xy(-3, 1, 0)), not(3, 0, p(1, 1)), stepOf(3, 3, false, 1), acts(
			made(xy(-3, 1, 1), xy(3, -1, 1), and(xy(-3, 1, 1), xy(3, -1, 1))),
			made(xy(-1, 1, 1), xy(1, -1, 1), and(xy(-1, 1, 1), xy(1, -1, 1)), div(3, 0, p(0, 1)), and(xy(-1, 1, 1), xy(1, -1, 1), div(3, 0, p(0, 1)))),
			at(), at(div(3, 0, p(1, 1))), at(div(3, 1, p(1, 1))), at(div(3, 2, p(1, 1))), made(not(3, 0, p(1, 1))))},
	})
}

// Also where the variable is not free both opposites are made, and what could be simpler is; the Step has the variable
// alone.
func TestP152NotFree(t *testing.T) {
	three, noThree := div(3, 0, p(1, 1)), not(3, 0, p(1, 1))
	makeAll(t, []making{
		{allOf(), never(), never(), api.Step{}, nil}, {allOf(), always(), always(), api.Step{}, nil},
		{allOf(), y(1, 0), y(1, 0), api.Step{}, made(y(-1, 1))}, {allOf(), three, three, api.Step{}, made(noThree)},
		{allOf(), and(y(1, 0), three), and(y(1, 0), three), api.Step{}, made(y(-1, 1), noThree, or(y(-1, 1), noThree))},
		{allOf(), and(y(1, 0), y(1, -3)), y(1, -3), api.Step{}, made(y(-1, 1), y(-1, 4))},
		// It is free in the formula, but not in the opposite any more.
		{allOf(), and(y(1, 0), or(y(1, 0), x(1, 0))), y(1, 0), api.Step{}, made(y(-1, 1), x(-1, 1), and(y(-1, 1), x(-1, 1)))},
		{allOf(), or(x(1, 0), x(-1, 1)), always(), api.Step{}, nil},
		{allOf(), and(x(1, 0), x(-1, 0)), never(), api.Step{}, made(x(-1, 1), x(1, 1))},
	})
	a := arena.New(nil)
	id := y(1, 0)(a)
	for _, v := range []int{7, -7, most, least} {
		if got, want := allOf().answer(a, id, v), (answer{id, api.Step{Var: v}, api.OK}); got.String() != want.String() {
			t.Errorf("v%d: %s, want %s", v, got, want)
		}
	}
}

// The errors stand in the order of the promises: ErrArg, ErrNode, ErrQuant, and none of them makes anything or spends. A
// quantifier counts wherever it is: also one that binds the variable, or nothing, also where the variable is not free.
func TestErrorsInOrder(t *testing.T) {
	a := arena.New(nil)
	f := xy(2, 3, 0)
	bound := layAll(a, of(some(0, f), all(0, f), some(1, f), all(1, f), some(5, f), some(0, never()), all(3, always()), and(f, some(1, f)), or(f, and(y(1, 0), all(0, y(1, 0)))), or(x(1, 0), and(y(1, 0), or(y(1, 5), some(2, y(1, 0))))), some(0, all(1, f)), and(f, div(3, 1, p(0, 1)), some(7, x(1, 0)))))
	for _, over := range []api.Errno{api.OK, api.ErrNodes} {
		if over != api.OK {
			a.Meter().Spend(api.MaxNodes)
		}
		for _, v := range []int{0, 1, 2, 7, -1, most, least} {
			for _, id := range []int{0, 1, 2, -1, a.Len(), most, least} {
				refuses(t, nil, id, v, api.ErrArg)
			}
			for _, id := range []int{-1, -2, least, a.Len(), a.Len() + 1, 2002, most} {
				refuses(t, a, id, v, api.ErrNode)
			}
			for _, id := range bound {
				refuses(t, a, id, v, api.ErrQuant)
			}
		}
	}
	// What is let go is no node any more.
	last := a.Len() - 1
	a.Release(last)
	refuses(t, a, last, 0, api.ErrNode)
	// What stands above the formula, or beside it, is nothing to it.
	a = arena.New(nil)
	id := x(1, 0)(a)
	layAll(a, of(some(0, x(1, 0)), and(x(1, 0), all(0, x(1, 0)))))
	if got, _, e := elim.Some(a, id, 0); got != 1 || e != api.OK {
		t.Errorf("below quantifiers: %d, %v", got, e)
	}
}

// Numbers that become too great, and what was made and spent ahead of that: it stays. With the number next to it all is
// well.
func TestGreatNumbers(t *testing.T) {
	k := func(less int) api.Int { return widest(8, less) }
	minus := func(less int) api.Int { return opposite(k(less)) }
	for row, l := range []struct {
		call          call
		of            form
		e             api.Errno
		nodes, points int
	}{
		// What is brought to L; and L itself, which stands in a node, too.
		{someOf(), and(xy(2, 1, 0), less(0, p(0, 3), big(1, k(2)))), api.ErrLimbs, 1, 0},
		{someOf(), and(xy(2, 1, 0), less(0, p(0, 2), big(1, k(0)))), api.OK, 5, 2},
		{someOf(), and(less(0, big(0, k(0)), p(1, 1)), less(0, big(0, k(1)), p(1, 1))), api.ErrLimbs, 3, 0},
		// A bound, and 1 more, from above 1 less.
		{someOf(), and(bigLess(minus(0), p(0, 1)), xz(-1, 1, 0)), api.ErrLimbs, 0, 2}, {someOf(), and(bigLess(minus(1), p(0, 1)), xz(-1, 1, 0)), api.OK, 1, 2},
		{someOf(), and(xz(1, -1, 0), xw(1, -1, 0), bigLess(minus(0), p(0, -1))), api.ErrLimbs, 0, 2}, {someOf(), and(xz(1, -1, 0), xw(1, -1, 0), bigLess(minus(1), p(0, -1))), api.OK, 3, 2},
		// A point for which something was made ahead; the second bound.
		{someOf(), and(xy(1, -1, 0), less(0, p(0, 1), big(2, minus(1))), bigLess(k(0), p(0, -1), p(3, 1)), bigLess(k(0), p(0, -1), p(4, 1))), api.OK, 9, 3},
		{someOf(), and(xy(1, -1, 0), less(0, p(0, 1), big(2, minus(1))), bigLess(minus(0), p(0, -1), p(3, 1)), bigLess(minus(0), p(0, -1), p(4, 1))), api.ErrLimbs, 1, 2},
		{someOf(), and(xy(1, -1, 0), bigLess(minus(0), p(0, 1), p(2, -1)), xw(-1, 1, 0), less(0, p(0, -1), p(4, 1))), api.ErrLimbs, 4, 3},
		// The first opposite, and the second one.
		{allOf(), bigLess(minus(0), p(0, 1)), api.ErrLimbs, 0, 0}, {allOf(), bigLess(minus(1), p(0, 1)), api.OK, 1, 1},
		{allOf(), or(bigLess(k(0), p(0, -1)), xz(1, -1, 1)), api.ErrLimbs, 4, 2}, {allOf(), or(bigLess(k(1), p(0, -1)), xz(1, -1, 1)), api.OK, 5, 2},
	} {
		a := arena.New(nil)
		id := l.of(a)
		was, spent := a.Len(), a.Meter().Spent()
		got := l.call.answer(a, id, 0)
		if got.e != l.e || a.Meter().Over() != l.e || a.Len() != was+l.nodes || a.Meter().Spent() != spent+l.nodes+l.points {
			t.Errorf("row %d, %s: %s, want %v, %d made, %d spent, in\n%s", row, l.call.name, got, l.e, l.nodes, l.points, tellArena(a))
		}
		if l.e != api.OK && got.String() != (answer{e: l.e}).String() {
			t.Errorf("row %d, %s: %s beside an error", row, l.call.name, got)
		}
	}
}

// Where the meter is over a point can't be spent, whatever is there; so what was crossed is answered, also where nothing
// would be made.
func TestTheMeterIsOver(t *testing.T) {
	for _, over := range []api.Errno{api.ErrNodes, api.ErrLimbs} {
		a := arena.New(meterOf(t, 9, 1))
		ids := layAll(a, of(x(-1, 0), x(1, 0), x(1, 1), y(1, 0), y(-1, 1), div(3, 1, p(0, 1)), div(3, 1, p(1, 1)), and(x(1, 0), x(-1, 0))))
		if over == api.ErrLimbs {
			a.Atom(api.Atom{Kind: api.Less, T: api.Term{Parts: []api.Part{p(0, 1)}, K: widest(2, 0)}})
		} else {
			a.Meter().Spend(2)
		}
		was := tellArena(a)
		for i, row := range []struct {
			call     call
			id, want int
			e        api.Errno
		}{
			{someOf(), ids[0], 0, over}, {someOf(), ids[1], 0, over}, {someOf(), ids[5], 0, over}, {someOf(), ids[7], 0, over},
			{someOf(), ids[3], ids[3], api.OK}, {someOf(), ids[6], ids[6], api.OK}, {someOf(), 0, 0, api.OK}, {someOf(), 1, 1, api.OK},
			{allOf(), ids[0], 0, over}, {allOf(), ids[3], ids[3], api.OK}, {allOf(), ids[6], 0, over}, {allOf(), 1, 1, api.OK},
		} {
			got := row.call.answer(a, row.id, 0)
			if want := (answer{row.want, api.Step{}, row.e}); got.String() != want.String() || tellArena(a) != was {
				t.Errorf("%v, line %d: %s of %d: %s, want %s, in\n%s", over, i, row.call.name, row.id, got, want, was)
			}
		}
	}
}

// Points are spent at the arena's own meter, which may be others' too.
func TestPointsOfASharedMeter(t *testing.T) {
	m := meterOf(t, 12, 1)
	a, other := arena.New(m), arena.New(m)
	sevens, mine := div(7, 0, p(0, 1))(a), y(1, 0)(other)
	if got := someOf().answer(a, sevens, 0); got.id != 1 || got.step.Points != 7 || m.Spent() != 9 {
		t.Errorf("%s; the meter: %d", got, m.Spent())
	}
	if got := someOf().answer(other, mine, 1); got.id != 1 || got.step.Points != 1 || m.Spent() != 10 {
		t.Errorf("%s; the meter: %d", got, m.Spent())
	}
	if got := someOf().answer(a, sevens, 0); got.String() != (answer{e: api.ErrNodes}).String() || m.Spent() != 12 || m.Over() != api.ErrNodes {
		t.Errorf("%s; the meter: %d, %v", got, m.Spent(), m.Over())
	}
}
