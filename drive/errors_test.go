package drive_test

import (
	"testing"

	"riddle/api"
	"riddle/arena"
	"riddle/drive"
)

// The errors stand in the order of the promises: ErrArg, ErrNode, of Some ErrQuant, and none of them makes anything or
// spends. A quantifier counts wherever it is: also one that binds the variable, or nothing, also where the variable is not
// free.
func TestErrorsInOrder(t *testing.T) {
	a := arena.New(nil)
	f := xy(2, 3, 0)
	bound := layAll(a, of(some(0, f), all(0, f), some(1, f), all(1, f), some(5, f), some(0, never()), all(3, always()), and(f, some(1, f)), or(f, and(y(1, 0), all(0, y(1, 0)))), or(x(1, 0), and(y(1, 0), or(y(1, 5), some(2, y(1, 0))))), some(0, all(1, f)), and(f, div(3, 1, p(0, 1)), some(7, x(1, 0)))))
	for _, over := range []api.Errno{api.OK, api.ErrNodes} {
		if over != api.OK {
			a.Meter().Spend(api.MaxNodes)
		}
		for _, v := range []int{0, 1, 2, 7, -1, most, least} {
			for _, c := range calls() {
				for _, id := range []int{0, 1, 2, -1, a.Len(), most, least} {
					c.refuses(t, nil, id, v, api.ErrArg)
				}
				for _, id := range []int{-1, -2, least, a.Len(), a.Len() + 1, 2002, most} {
					c.refuses(t, a, id, v, api.ErrNode)
				}
			}
			for _, id := range bound {
				someOf().refuses(t, a, id, v, api.ErrQuant)
			}
		}
	}
	// What is let go is no node any more.
	last := a.Len() - 1
	a.Release(last)
	for _, c := range calls() {
		c.refuses(t, a, last, 0, api.ErrNode)
	}
	// What stands above the formula, or beside it, is nothing to it.
	a = arena.New(nil)
	id := x(1, 0)(a)
	layAll(a, of(some(0, x(1, 0)), and(x(1, 0), all(0, x(1, 0)))))
	if got, _, e := drive.Some(a, id, 0); got != 1 || e != api.OK {
		t.Errorf("below quantifiers: %d, %v", got, e)
	}
	if got, steps, e := drive.Run(a, id); got != id || len(steps) > 0 || e != api.OK {
		t.Errorf("Run below quantifiers: %d, %v", got, e)
	}
}

// Numbers that become too great, and what was made and spent ahead of that: it stays, but the steps are not told. With the
// number next to it all is well.
func TestGreatNumbers(t *testing.T) {
	k := func(less int) api.Int { return widest(8, less) }
	minus := func(less int) api.Int { return opposite(k(less)) }
	// A point 1 behind the bound has one limb more.
	far := func(less int) form { return and(bigLess(minus(less), p(0, 1)), xz(-1, 1, 0)) }
	for row, l := range []struct {
		call          call
		of            form
		e             api.Errno
		nodes, points int
	}{
		{someOf(), far(0), api.ErrLimbs, 0, 2}, {someOf(), far(1), api.OK, 1, 2},
		// Behind another kid of an Or, ahead of one, and within an And.
		{someOf(), or(gap(0), far(0)), api.ErrLimbs, 1, 4}, {someOf(), or(far(0), gap(0)), api.ErrLimbs, 0, 2}, {someOf(), or(gap(0), far(1)), api.OK, 3, 4},
		{someOf(), and(w(1, 0), bigLess(minus(0), p(0, 1)), xz(-1, 1, 0)), api.ErrLimbs, 1, 2}, {someOf(), and(w(1, 0), bigLess(minus(1), p(0, 1)), xz(-1, 1, 0)), api.OK, 3, 2},
		{runOf(), some(0, far(0)), api.ErrLimbs, 0, 2}, {runOf(), some(0, far(1)), api.OK, 1, 2}, {runOf(), and(some(0, gap(0)), some(0, far(0))), api.ErrLimbs, 1, 4},
		{runOf(), or(some(0, gap(0)), and(w(1, 0), some(3, some(0, far(0))))), api.ErrLimbs, 1, 4},
		// The first opposite, and the second one.
		{runOf(), all(0, bigLess(minus(0), p(0, 1))), api.ErrLimbs, 0, 0}, {runOf(), all(0, bigLess(minus(1), p(0, 1))), api.OK, 1, 1}, {runOf(), all(5, bigLess(minus(0), p(0, 1))), api.ErrLimbs, 0, 0},
		{runOf(), all(0, or(bigLess(k(0), p(0, -1)), xz(1, -1, 1))), api.ErrLimbs, 4, 2}, {runOf(), all(0, or(bigLess(k(1), p(0, -1)), xz(1, -1, 1))), api.OK, 5, 2},
	} {
		a := arena.New(nil)
		id := l.of(a)
		was, spent := a.Len(), a.Meter().Spent()
		got := l.call.answer(a, id, 0)
		if got.e != l.e || a.Meter().Over() != l.e || a.Len() != was+l.nodes || a.Meter().Spent() != spent+l.nodes+l.points {
			t.Errorf("row %d, %s: %s, want %v, %d made, %d spent, in\n%s", row, l.call.name, got, l.e, l.nodes, l.points, tellArena(a))
		}
		if l.e != api.OK && got.String() != (answer{e: l.e}).String() {
			t.Errorf("row %d, %s: %s beside an error", row, l.call.name, got)
		}
	}
}

// Where the meter is over a point can't be spent, whatever is there; so what was crossed is answered, also where nothing
// would be made. What needs neither is answered.
func TestTheMeterIsOver(t *testing.T) {
	for _, over := range []api.Errno{api.ErrNodes, api.ErrLimbs} {
		a := arena.New(meterOf(t, 14, 1))
		ids := layAll(a, of(x(1, 0), y(1, 0), y(-1, 1), div(3, 1, p(1, 1)), and(x(1, 0), y(1, 0)), or(x(1, 0), y(1, 0)), some(0, x(1, 0)), some(1, x(1, 0)), all(0, y(1, 0)), all(0, div(3, 1, p(1, 1))), and(some(1, x(1, 0)), y(1, 0)), and(y(1, 0), or(x(1, 0), y(1, 0)))))
		if over == api.ErrLimbs {
			a.Atom(api.Atom{Kind: api.Less, T: api.Term{Parts: []api.Part{p(0, 1)}, K: widest(2, 0)}})
		} else {
			a.Meter().Spend(3)
		}
		was := tellArena(a)
		for i, row := range []struct {
			call     call
			id, want int
			e        api.Errno
		}{
			{someOf(), ids[0], 0, over}, {someOf(), ids[4], 0, over}, {someOf(), ids[5], 0, over}, {someOf(), ids[1], ids[1], api.OK}, {someOf(), 0, 0, api.OK}, {someOf(), 1, 1, api.OK},
			{someOf(), ids[6], 0, api.ErrQuant}, {someOf(), a.Len(), 0, api.ErrNode},
			{runOf(), ids[0], ids[0], api.OK}, {runOf(), ids[4], ids[4], api.OK}, {runOf(), ids[6], 0, over}, {runOf(), ids[7], ids[0], api.OK}, {runOf(), ids[8], ids[1], api.OK}, {runOf(), ids[9], 0, over},
			{runOf(), ids[10], ids[4], api.OK}, {runOf(), ids[11], ids[1], api.OK}, {runOf(), 1, 1, api.OK}, {runOf(), -1, 0, api.ErrNode},
		} {
			got := row.call.answer(a, row.id, 0)
			if want := (answer{id: row.want, e: row.e}); got.String() != want.String() || tellArena(a) != was {
				t.Errorf("%v, line %d: %s of %d: %s, want %s, in\n%s", over, i, row.call.name, row.id, got, want, was)
			}
		}
	}
}

// Points are spent at the arena's own meter, which may be others' too.
func TestPointsOfASharedMeter(t *testing.T) {
	m := meterOf(t, 14, 1)
	a, other := arena.New(m), arena.New(m)
	sevens, mine := some(0, div(7, 0, p(0, 1)))(a), y(1, 0)(other)
	if got := runOf().answer(a, sevens, 0); got.id != 1 || got.points() != 7 || m.Spent() != 10 {
		t.Errorf("%s; the meter: %d", got, m.Spent())
	}
	if got := someOf().answer(other, mine, 1); got.id != 1 || got.points() != 1 || m.Spent() != 11 {
		t.Errorf("%s; the meter: %d", got, m.Spent())
	}
	if got := runOf().answer(a, sevens, 0); got.String() != (answer{e: api.ErrNodes}).String() || m.Spent() != 14 || m.Over() != api.ErrNodes {
		t.Errorf("%s; the meter: %d, %v", got, m.Spent(), m.Over())
	}
}
