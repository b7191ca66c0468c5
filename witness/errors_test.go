package witness_test

import (
	"slices"
	"testing"

	"riddle/api"
	"riddle/arena"
)

// bound are formulas with quantifiers: above all, deep below, which bind what is there or nothing.
func bound() []form {
	f := xy(2, 3, 0)
	return of(some(0, x(1, 0)), all(0, x(1, 0)), some(0, f), all(1, f), some(5, x(1, 0)), some(0, never()), all(3, always()), and(x(1, 0), some(1, y(1, 0))), or(x(1, 0), and(x(1, -3), all(0, x(1, 0)))), and(x(1, 0), or(x(1, 5), and(x(-1, 5), some(2, x(1, 0))))), some(0, all(1, f)), or(always(), all(4, x(1, 0))), and(never(), some(4, x(1, 0))), and(y(1, 0), some(0, x(1, 0))))
}

// One's errors stand in the order of the promise: ErrArg of a nil arena, ErrNode, ErrQuant, ErrFree; none of them makes
// anything or spends, also where the meter is over.
func TestP201Errors(t *testing.T) {
	a := arena.New(nil)
	quantified := layAll(a, bound())
	open := layAll(a, of(y(1, 0), xy(1, -1, 0), less(0, p(0, 1), p(2, 1)), div(3, 1, p(0, 1), p(1, 1)), not(3, 1, p(-1, 1)), and(x(1, 0), y(1, 0)), or(x(1, 0), and(x(-1, 0), or(x(1, 5), not(7, 1, p(2, 1))))), or(always(), y(1, 0)), and(never(), y(1, 0))))
	for _, over := range []api.Errno{api.OK, api.ErrNodes} {
		if over != api.OK {
			a.Meter().Spend(api.MaxNodes)
		}
		for _, v := range []int{0, 3, -5, most, least} {
			for _, id := range []int{0, 1, 2, -1, a.Len(), most, least} {
				oneOf(id, v).refuses(t, nil, api.ErrArg)
			}
			for _, id := range []int{-1, -2, least, a.Len(), a.Len() + 1, 2002, most} {
				oneOf(id, v).refuses(t, a, api.ErrNode)
			}
			for _, id := range quantified {
				oneOf(id, v).refuses(t, a, api.ErrQuant)
			}
			for _, id := range open {
				oneOf(id, v).refuses(t, a, api.ErrFree)
			}
		}
	}
	// Which other variable it is doesn't matter, nor that v is free, too.
	a = arena.New(nil)
	for _, v := range []int{1, -1, most, least} {
		for _, id := range layAll(a, of(less(0, p(v, 1)), less(0, p(0, 1), p(v, 1)), and(x(1, 0), less(0, p(v, 1))))) {
			oneOf(id, 0).refuses(t, a, api.ErrFree)
		}
	}
	id := and(x(1, 0), y(1, 0))(a)
	oneOf(id, 1).refuses(t, a, api.ErrFree)
	// What is let go is no node any more; what is left of its kids is one.
	a.Release(id)
	oneOf(id, 0).refuses(t, a, api.ErrNode)
	if got := oneOf(x(1, 0)(a), 0).ask(a); got.String() != (answer{numbers(1), true, api.OK}).String() {
		t.Errorf("a kid: %s", got)
	}
}

// Find's: ErrArg of a nil arena, ErrNode, ErrArg of a variable that stands twice, ErrArity; likewise.
func TestP202Errors(t *testing.T) {
	a := arena.New(nil)
	layAll(a, bound())
	open := layAll(a, of(xy(1, -1, 0), and(x(1, 0), y(1, 0)), some(2, and(xz(1, -1, 0), yz(1, -1, 0)))))
	twice := [][]int{vars(0, 0), vars(0, 1, 0), vars(1, 0, 1), vars(7, 8, 9, 7), vars(most, least, most), vars(2, 1, 0, 0), vars(0, 0, 0), append(ascending(500), 250)}
	for _, over := range []api.Errno{api.OK, api.ErrNodes} {
		if over != api.OK {
			a.Meter().Spend(api.MaxNodes)
		}
		for _, l := range append(twice, nil, vars(0), vars(1, 0)) {
			for _, given := range [][]api.Value{nil, vals(val(0, 1), val(1, 1), val(2, 1)), vals(val(5, 1))} {
				for _, id := range []int{0, 1, 2, -1, a.Len(), most, least} {
					findOf(id, l, given).refuses(t, nil, api.ErrArg)
				}
				for _, id := range []int{-1, -2, least, a.Len(), a.Len() + 1, 2002, most} {
					findOf(id, l, given).refuses(t, a, api.ErrNode)
				}
			}
		}
		// ErrArg also where ErrArity would stand besides, and where the variable is not free or has a value.
		for _, l := range twice {
			for _, given := range [][]api.Value{nil, vals(val(0, 1), val(1, 1), val(2, 1)), vals(val(5, 1))} {
				for id := range a.Len() {
					findOf(id, l, given).refuses(t, a, api.ErrArg)
				}
			}
		}
		for _, id := range open {
			for _, q := range []asking{
				findOf(id, nil, nil), findOf(id, vars(0), nil), findOf(id, vars(1), nil), findOf(id, nil, vals(val(0, 1))), findOf(id, nil, vals(val(1, 1), val(1, 2))), findOf(id, vars(0), vals(val(0, 1))), findOf(id, vars(1, 2), vals(val(2, 5), val(1, 1))),
				findOf(id, vars(0, 2, 3, -1, most, least), vals(val(0, 1), val(2, 1), val(3, 1))), findOf(id, vars(5, 6, 7), vals(val(8, 1), val(1, 1))),
			} {
				q.refuses(t, a, api.ErrArity)
			}
		}
	}
	// What is let go is no node any more.
	last := a.Len() - 1
	a.Release(last)
	findOf(last, vars(0), nil).refuses(t, a, api.ErrNode)
}

// ascending are the first variables.
func ascending(many int) []int {
	var l []int
	for v := range many {
		l = append(l, v)
	}
	return l
}

// A free variable of each kind of place must be told; one that is bound at all places, or not there, need not be.
func TestP202Arity(t *testing.T) {
	for row, l := range []struct {
		of   form
		free []int
	}{
		{x(1, 0), vars(0)}, {div(3, 1, p(4, 1)), vars(4)}, {not(3, 1, p(-4, 1), p(4, 1)), vars(-4, 4)}, {and(x(1, 0), y(1, 0), z(1, 0)), vars(0, 1, 2)}, {or(always(), y(1, 0)), vars(1)}, {and(never(), y(1, 0)), vars(1)},
		{some(0, x(1, 0)), nil}, {some(0, xy(1, 1, 0)), vars(1)}, {and(x(1, 0), some(0, xy(1, 1, 0))), vars(0, 1)}, {all(0, some(1, less(0, p(0, 1), p(1, 1), p(most, 1), p(least, 1)))), vars(least, most)}, {x(0, 1), nil}, {less(0, p(0, 2), p(0, -2), p(1, 1)), vars(1)},
	} {
		for bits := range 1 << (2 * len(l.free)) {
			a := arena.New(nil)
			q := findOf(l.of(a), nil, nil)
			told := 0
			for i, v := range l.free {
				in, given := bits>>(2*i)&1 > 0, bits>>(2*i+1)&1 > 0
				if in {
					q.vars = append(q.vars, v)
				}
				if given {
					q.vals = append(q.vals, val(v, 3))
				}
				if in || given {
					told++
				}
			}
			if told < len(l.free) {
				q.refuses(t, a, api.ErrArity)
			} else if got := q.ask(a); got.e != api.OK || len(got.list) != len(q.vars) && got.is {
				t.Errorf("row %d: %s: %s", row, q, got)
			}
		}
	}
}

// The error of a step is answered, and what was made and spent ahead of it stays: of numbers that become too great while the
// values are put in, while quantifiers are eliminated, while the variables are, while values are put into what is left.
func TestP202ErrorsOfSteps(t *testing.T) {
	k := func(less int) api.Int { return opposite(widest(8, less)) }
	far := func(less int) form { return and(bigLess(k(less), p(2, 1)), xz(1, -1, 0)) }
	for row, l := range []struct {
		of            form
		vars          []int
		vals          []api.Value
		e             api.Errno
		nodes, points int
	}{
		{xy(1, -1, 0), vars(0), vals(bigVal(1, wide(9, 0))), api.ErrLimbs, 0, 0}, {xy(1, -1, 0), vars(0), vals(bigVal(1, widest(8, 0))), api.OK, 1, 3}, {and(x(1, 0), xy(1, -1, 0)), vars(0), vals(bigVal(1, wide(9, 0))), api.ErrLimbs, 0, 0}, {and(xz(1, -1, 0), xy(1, -1, 0)), vars(0), vals(val(2, 5), bigVal(1, wide(9, 0))), api.ErrLimbs, 2, 0},
		// A bound of 8 limbs, and the point behind it.
		{some(2, far(0)), vars(0), nil, api.ErrLimbs, 0, 2}, {some(2, far(1)), vars(0), nil, api.OK, 1, 2 + 1 + 2}, {and(some(2, far(0)), y(1, 0)), vars(0), vals(val(1, 1)), api.ErrLimbs, 0, 2},
		{far(0), vars(0, 2), nil, api.ErrLimbs, 0, 2}, {far(1), vars(0, 2), nil, api.ErrLimbs, 1, 2 + 1 + 2}, {far(2), vars(0, 2), nil, api.OK, 3, 2 + 1 + 2 + 2}, {and(far(0), y(1, 0)), vars(0, 2, 1), nil, api.ErrLimbs, 1, 1 + 2},
		// v2 is found, and has 9 limbs; so has v0 one line above, with the bound next to it.
		{far(0), vars(2, 0), nil, api.ErrLimbs, 0, 1 + 1 + 2}, {far(1), vars(2, 0), nil, api.OK, 1, 1 + 1 + 2 + 2},
	} {
		a := arena.New(nil)
		q := findOf(l.of(a), l.vars, l.vals)
		was, spent := a.Len(), a.Meter().Spent()
		ahead := tellNodes(a, was)
		got := q.ask(a)
		if got.e != l.e || a.Meter().Over() != l.e || a.Len() != was+l.nodes || a.Meter().Spent() != spent+l.nodes+l.points || tellNodes(a, was) != ahead {
			t.Errorf("row %d: %s: %s, want %v, %d made, %d spent, in\n%s", row, q, got, l.e, l.nodes, l.points, tellArena(a))
		}
		if l.e != api.OK && got.String() != q.nothing(l.e).String() {
			t.Errorf("row %d: %s: %s beside an error", row, q, got)
		}
	}
}

// Where the meter is over no point can be spent, so that what was crossed is answered; what needs neither a node nor a
// point is answered.
func TestTheMeterIsOver(t *testing.T) {
	for _, over := range []api.Errno{api.ErrNodes, api.ErrLimbs} {
		a := arena.New(meterOf(t, 9, 1))
		ids := layAll(a, of(x(1, 0), y(1, 0), xy(1, -1, 0), and(x(1, 0), x(-1, 0)), some(0, x(1, 0)), some(1, x(1, 0)), all(0, y(1, 0))))
		if over == api.ErrLimbs {
			a.Meter().Node(widest(2, 0))
		} else {
			a.Meter().Spend(3)
		}
		was := tellArena(a)
		for i, row := range []struct {
			q    asking
			want answer
		}{
			{oneOf(1, 0), answer{e: over}}, {oneOf(0, 0), answer{e: over}}, {oneOf(ids[0], 0), answer{e: over}}, {oneOf(ids[1], 0), answer{e: api.ErrFree}}, {oneOf(ids[5], 0), answer{e: api.ErrQuant}}, {oneOf(-1, 0), answer{e: api.ErrNode}},
			{findOf(1, nil, nil), answer{is: true}}, {findOf(0, nil, nil), answer{}}, {findOf(0, vars(0, 5), nil), answer{}}, {findOf(1, vars(0), nil), answer{e: over}}, {findOf(ids[0], vars(0), nil), answer{e: over}}, {findOf(ids[0], nil, vals(val(0, 1))), answer{is: true}}, {findOf(ids[0], nil, vals(val(0, -1))), answer{}},
			{findOf(ids[2], vars(0), vals(val(1, 0))), answer{e: over}}, {findOf(ids[2], vars(0), vals(val(1, 5))), answer{e: over}}, {findOf(ids[3], vars(0), nil), answer{}}, {findOf(ids[4], nil, nil), answer{e: over}}, {findOf(ids[5], nil, vals(val(0, 3))), answer{e: over}},
			{findOf(ids[2], vars(0), nil), answer{e: api.ErrArity}}, {findOf(ids[2], vars(0, 0), nil), answer{e: api.ErrArg}}, {findOf(99, vars(0, 0), nil), answer{e: api.ErrNode}},
		} {
			want := row.want
			if row.q.one {
				want.list = numbers(0)
			}
			if got := row.q.ask(a); got.String() != want.String() || tellArena(a) != was {
				t.Errorf("%v, line %d: %s: %s, want %s, in\n%s", over, i, row.q, got, want, was)
			}
		}
	}
}

// Points are spent at the arena's own meter, which may be others' too.
func TestPointsOfASharedMeter(t *testing.T) {
	m := meterOf(t, 12, 1)
	a, other := arena.New(m), arena.New(m)
	sevens, mine := divides(7, 2)(a), x(1, -3)(other)
	if got := oneOf(sevens, 0).ask(a); got.String() != (answer{numbers(-2), true, api.OK}).String() || m.Spent() != 5 {
		t.Errorf("%s; the meter: %d", got, m.Spent())
	}
	if got := findOf(mine, vars(0), nil).ask(other); got.String() != (answer{numbers(4), true, api.OK}).String() || m.Spent() != 8 {
		t.Errorf("%s; the meter: %d", got, m.Spent())
	}
	q := findOf(sevens, vars(0), nil)
	if got := q.ask(a); got.String() != q.nothing(api.ErrNodes).String() || m.Spent() != 12 || m.Over() != api.ErrNodes {
		t.Errorf("%s; the meter: %d, %v", got, m.Spent(), m.Over())
	}
	if got := oneOf(mine, 0).ask(other); got.String() != oneOf(mine, 0).nothing(api.ErrNodes).String() || !slices.Equal(other.Reach(mine), vars(mine)) {
		t.Errorf("%s", got)
	}
}
