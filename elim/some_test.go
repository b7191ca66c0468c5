package elim_test

import (
	"testing"

	"riddle/api"
	"riddle/arena"
	"riddle/elim"
)

// The examples of the chapter.
func TestExamples(t *testing.T) {
	even := div(2, 0, p(0, 1))
	makeAll(t, []making{
		{someOf(), and(xy(2, -1, 0), xy(-2, 1, 2)), div(2, 1, p(1, 1)), stepOf(2, 2, false, 1), acts(
			made(xy(1, -1, 0), xy(-1, 1, 2), and(xy(1, -1, 0), xy(-1, 1, 2)), even, and(xy(1, -1, 0), xy(-1, 1, 2), even)),
			at(), at(div(2, 1, p(1, 1))), at(div(2, 0, p(1, 1))))},
		{someOf(), xy(1, -1, 0), always(), stepOf(1, 1, true, 0), points(1)},
		{someOf(), and(div(3, 0, p(0, 1)), div(2, 1, p(0, 1))), always(), stepOf(1, 6, false, 0), points(3)},
		{someOf(), y(1, 0), y(1, 0), api.Step{}, nil},
		{allOf(), x(1, -3), never(), stepOf(1, 1, false, 0), acts(made(x(-1, 4)), at())},
	})
}

// Examples of the whole: x above y and below z; x below y implies x below z; x below y.
func TestExamplesOfTheWhole(t *testing.T) {
	makeAll(t, []making{
		{someOf(), and(xy(1, -1, 0), xz(-1, 1, 0)), yz(-1, 1, -1), stepOf(1, 1, false, 1), acts(at(), at(yz(-1, 1, -1)))},
		{allOf(), or(xy(1, -1, 1), xz(-1, 1, 0)), yz(-1, 1, 1), stepOf(1, 1, false, 1), acts(
			made(xy(-1, 1, 0), xz(1, -1, 1), and(xy(-1, 1, 0), xz(1, -1, 1))), at(), at(yz(1, -1, 0)), made(yz(-1, 1, 1)))},
		{allOf(), xy(-1, 1, 0), never(), stepOf(1, 1, true, 0), acts(made(xy(1, -1, 1)), at())},
	})
}

// Where the variable is not free it is the node itself, whatever it is, and a Step with the variable alone; nothing is
// made or spent, also where the meter is over.
func TestP151NotFree(t *testing.T) {
	forms := of(never(), always(), y(1, 0), y(-1, 5), div(3, 1, p(1, 2)), not(3, 1, p(1, 2)), less(0, p(-1, 2), p(1, 3)),
		// What could be simpler stays as it is.
		and(y(1, 0), y(1, -3)), or(y(1, 0), y(-1, 5)), and(never(), y(1, 0)), or(and(y(1, 0), div(3, 0, p(1, 1))), not(3, 0, p(1, 1))),
		// The part of it is gone by the atom's form.
		less(0, p(0, 3), p(1, 1), p(0, -3)), div(5, 1, p(0, 5), p(1, 1)))
	for _, v := range []int{0, 7, -7, most, least} {
		a := arena.New(nil)
		ids := layAll(a, append(forms, behind(of(x(1, 0), and(x(1, 0), y(1, 7))), y(1, 7))))
		for _, over := range []api.Errno{api.OK, api.ErrNodes} {
			if over != api.OK {
				a.Meter().Spend(api.MaxNodes)
			}
			was := tellArena(a)
			for _, id := range ids {
				got := someOf().answer(a, id, v)
				if want := (answer{id, api.Step{Var: v}, api.OK}); got.String() != want.String() || tellArena(a) != was {
					t.Errorf("of %d and v%d, %v: %s, want %s, in\n%s", id, v, over, got, want, tellArena(a))
				}
			}
		}
	}
}

// The side with fewer bounds is looked at; the lower one, if there are as many.
func TestP151WhichSide(t *testing.T) {
	for _, row := range []struct {
		f      form
		high   bool
		bounds int
	}{
		{div(3, 0, p(0, 1), p(1, 1)), false, 0}, {x(-1, 0), false, 0}, {x(1, 0), true, 0},
		{and(xy(1, 1, 0), x(-1, 0)), false, 1}, {and(xy(1, 1, 0), xz(1, 1, 0), x(-1, 0)), true, 1}, {and(xy(1, 1, 0), xz(-1, 1, 0), x(-1, 0)), false, 1},
		{and(xy(1, 1, 0), xz(1, 1, 0), xy(-1, 1, 5), xz(-1, 1, 0)), false, 2}, {and(xy(1, 1, 0), xz(1, 1, 0), x(1, 0), xy(-1, 1, 5), xz(-1, 1, 0)), true, 2},
		{and(xy(1, 1, 0), xz(1, 1, 0), x(1, 0)), true, 0}, {or(xy(-1, 1, 0), xz(-1, 1, 0), x(-1, 0)), false, 0},
		// What is left when it is made simpler counts alone.
		{and(xy(1, 1, 0), xy(1, 1, -4), xy(1, 1, -7), xz(-1, 1, 0)), false, 1},
		// How many points the divisors make doesn't matter.
		{and(xy(1, 1, 0), xz(1, 1, 0), x(-1, 0), div(7, 0, p(0, 1))), true, 1},
	} {
		a := arena.New(nil)
		id := row.f(a)
		if _, step, e := elim.Some(a, id, 0); step.High != row.high || step.Bounds != row.bounds || e != api.OK {
			t.Errorf("%s, %v, want %v, %d, in\n%s", tellStep(step), e, row.high, row.bounds, tellNodes(a, id+1))
		}
	}
}

// What is made and spent where the bounds are looked at, from below and from above: all in its order.
func TestP151Bounds(t *testing.T) {
	between := and(yw(-1, 1, -1), zw(-1, 1, -1))
	makeAll(t, []making{
		// One upper bound, w, and two lower ones: 1 below w.
		{someOf(), and(xy(1, -1, 0), xz(1, -1, 0), xw(-1, 1, 0)), between, stepOf(1, 1, true, 1), acts(at(), at(yw(-1, 1, -1), zw(-1, 1, -1), between))},
		// One lower bound, w, and two upper ones: 1 above w.
		{someOf(), and(xy(-1, 1, 0), xz(-1, 1, 0), xw(1, -1, 0)), and(yw(1, -1, -1), zw(1, -1, -1)), stepOf(1, 1, false, 1),
			acts(at(), at(yw(1, -1, -1), zw(1, -1, -1), and(yw(1, -1, -1), zw(1, -1, -1))))},
		// The bounds stand in the order of terms, not of nodes.
		{someOf(), behind(of(xz(1, -1, 0), xy(1, -1, 0)), and(xy(1, -1, 0), xz(1, -1, 0), xw(-1, 1, 0), x(-1, 9))), or(and(yz(1, -1, 1), yw(-1, 1, -1), y(-1, 8)), and(yz(-1, 1, 1), zw(-1, 1, -1), less(8, p(2, -1)))), stepOf(1, 1, false, 2),
			acts(at(),
				at(yz(1, -1, 1), yw(-1, 1, -1), y(-1, 8), and(yz(1, -1, 1), yw(-1, 1, -1), y(-1, 8))),
				at(yz(-1, 1, 1), zw(-1, 1, -1), less(8, p(2, -1)), and(yz(-1, 1, 1), zw(-1, 1, -1), less(8, p(2, -1)))),
				made(or(and(yz(1, -1, 1), yw(-1, 1, -1), y(-1, 8)), and(yz(-1, 1, 1), zw(-1, 1, -1), less(8, p(2, -1))))))},
		// A bound that is a number comes ahead of those with variables.
		{someOf(), and(or(xy(1, -1, 0), x(1, -4)), or(xy(-1, 1, 3), x(-1, 6))), always(), stepOf(1, 1, false, 2), acts(at(), at(y(-1, 5), y(1, -2)))},
		// A formula that is false at its bounds.
		{someOf(), and(xy(1, -1, 0), xy(-1, 1, 1)), never(), stepOf(1, 1, false, 0), points(1)},
		{someOf(), and(x(1, 0), x(-1, 4), div(5, 0, p(0, 1))), never(), stepOf(1, 5, false, 1), points(6)},
	})
}

// With a period above 1 each bound has as many points as that: up from a lower one, down from an upper one.
func TestP151PeriodAtBounds(t *testing.T) {
	three := div(3, 0, p(0, 1))
	rest := func(k int) form { return div(3, k, p(1, 1)) }
	up := func(j int) form { return and(yz(-1, 1, -j), rest(j)) }
	down := func(j int) form { return and(yz(1, -1, -j), yw(1, -1, -j), rest(-j)) }
	makeAll(t, []making{
		{someOf(), and(xy(1, -1, 0), xz(-1, 1, 0), three), or(up(1), up(2), up(3)), stepOf(1, 3, false, 1), acts(at(),
			at(yz(-1, 1, -1), rest(1), up(1)), at(yz(-1, 1, -2), rest(2), up(2)), at(yz(-1, 1, -3), rest(0), up(3)), made(or(up(1), up(2), up(3))))},
		{someOf(), and(xz(1, -1, 0), xw(1, -1, 0), xy(-1, 1, 0), three), or(down(1), down(2), down(3)), stepOf(1, 3, true, 1), acts(at(),
			at(yz(1, -1, -1), yw(1, -1, -1), rest(2), down(1)), at(yz(1, -1, -2), yw(1, -1, -2), rest(1), down(2)), at(yz(1, -1, -3), yw(1, -1, -3), rest(0), down(3)),
			made(or(down(1), down(2), down(3))))},
	})
}

// Far away there are as many points as the period, if the variable is still there: from 1 on upwards, if High from -1 on
// downwards.
func TestP151FarAway(t *testing.T) {
	five := func(k int) form { return div(5, k, p(1, 1)) }
	makeAll(t, []making{
		{someOf(), div(5, 0, p(0, 1), p(1, 1)), or(five(0), five(1), five(2), five(3), five(4)), stepOf(1, 5, false, 0), acts(
			at(five(1)), at(five(2)), at(five(3)), at(five(4)), at(five(0)), made(or(five(0), five(1), five(2), five(3), five(4))))},
		// High: what is above y, with five that divides; there are no upper bounds.
		{someOf(), and(xz(1, -1, 0), div(5, 0, p(0, 1), p(1, 1))), or(five(0), five(1), five(2), five(3), five(4)), stepOf(1, 5, true, 0), acts(
			at(five(4)), at(five(3)), at(five(2)), at(five(1)), at(five(0)), made(or(five(0), five(1), five(2), five(3), five(4))))},
		{someOf(), and(xz(-1, 1, 0), div(5, 0, p(0, 1), p(1, 1))), or(five(0), five(1), five(2), five(3), five(4)), stepOf(1, 5, false, 0), acts(
			at(five(1)), at(five(2)), at(five(3)), at(five(4)), at(five(0)), made(or(five(0), five(1), five(2), five(3), five(4))))},
		// The variable is not there any more: one point, whatever the period is.
		{someOf(), and(x(1, 0), x(-1, 2), div(5, 0, p(0, 1))), never(), stepOf(1, 5, false, 1), points(6)},
		{someOf(), or(x(1, 0), div(5, 0, p(0, 1))), always(), stepOf(1, 5, true, 0), points(1)},
		{someOf(), or(and(x(1, 0), div(5, 0, p(0, 1), p(1, 1)), x(-1, 1)), y(1, 0)), y(1, 0), stepOf(1, 1, false, 0), points(1)},
	})
	// What is far away is made ahead of the points.
	far := and(y(1, 0), div(2, 0, p(0, 1), p(2, 1)))
	even, odd := div(2, 0, p(2, 1)), div(2, 1, p(2, 1))
	makeAll(t, []making{
		{someOf(), and(xw(-1, 1, 0), y(1, 0), div(2, 0, p(0, 1), p(2, 1))), or(and(y(1, 0), odd), and(y(1, 0), even)), stepOf(1, 2, false, 0), acts(
			made(far), at(odd, and(y(1, 0), odd)), at(even, and(y(1, 0), even)), made(or(and(y(1, 0), odd), and(y(1, 0), even))))},
	})
}

// Both: first those far away, then those at the bounds.
func TestP151FarAwayAndBounds(t *testing.T) {
	two := func(v int) form { return div(2, 0, p(0, 1), p(v, 1)) }
	odd, even := div(2, 1, p(3, 1)), div(2, 0, p(3, 1))
	inner := func(k int) form { return yz(-1, 1, k) }
	fromY := func(k int) form { return div(2, k, p(1, 1), p(3, 1)) }
	makeAll(t, []making{
		{someOf(), or(and(xy(1, -1, 0), xz(-1, 1, 0)), two(3)), or(odd, even, inner(-1), fromY(1), fromY(0)), stepOf(1, 2, false, 1), acts(
			at(odd), at(even), at(inner(-1), fromY(1), or(inner(-1), fromY(1))), at(inner(-2), fromY(0), or(inner(-2), fromY(0))),
			made(or(odd, even, inner(-1), fromY(1), fromY(0))))},
	})
}

// If an instance is 1 that is the answer at once, wherever the point is, and no further one is spent.
func TestP151AtOnce(t *testing.T) {
	fives := div(5, 0, p(0, 1))
	makeAll(t, []making{
		// Far away: the first point, one in the middle, the last one; from above, too.
		{someOf(), x(-1, 0), always(), stepOf(1, 1, false, 0), points(1)},
		{someOf(), div(7, 6, p(0, 1)), always(), stepOf(1, 7, false, 0), points(1)},
		{someOf(), div(7, 3, p(0, 1)), always(), stepOf(1, 7, false, 0), points(4)},
		{someOf(), div(7, 0, p(0, 1)), always(), stepOf(1, 7, false, 0), points(7)},
		{someOf(), not(7, 6, p(0, 1)), always(), stepOf(1, 7, false, 0), points(2)},
		{someOf(), and(x(1, 0), div(7, 3, p(0, 1))), always(), stepOf(1, 7, true, 0), points(3)},
		// At a bound: its first point, one in the middle, the last one of all.
		{someOf(), and(x(1, -1), x(-1, 9)), always(), stepOf(1, 1, false, 1), points(2)},
		{someOf(), and(x(1, -1), x(-1, 9), fives), always(), stepOf(1, 5, false, 1), points(5)},
		{someOf(), and(x(1, 0), x(-1, 6), fives), always(), stepOf(1, 5, false, 1), points(6)},
		{someOf(), and(or(x(1, 0), div(2, 0, p(0, 1))), or(x(1, -3), div(3, 0, p(0, 1))), x(-1, 9), fives), always(), stepOf(1, 30, true, 1), points(5)},
		// At the second one of two: the Bounds of the step are all that there are, also where one of them was not needed.
		{someOf(), or(and(x(1, 0), x(-1, 3), fives), and(x(1, -7), x(-1, 12), fives)), always(), stepOf(1, 5, false, 2), points(9)},
		{someOf(), or(and(x(1, 0), x(-1, 4), fives), and(x(1, -6), or(x(1, -8), div(2, 0, p(0, 1))), x(-1, 12), fives)), always(), stepOf(1, 10, true, 2), points(13)},
		{someOf(), or(and(x(1, 0), x(-1, 8), fives), and(x(1, -7), x(-1, 9), fives)), always(), stepOf(1, 5, false, 2), points(6)},
		// What was made on the way stays.
		{someOf(), and(xy(1, -1, 0), or(xz(-1, 1, 0), xy(-1, 1, 2))), always(), stepOf(1, 1, false, 1), acts(at(), at(yz(-1, 1, -1)))},
		{someOf(), or(div(3, 0, p(0, 1), p(1, 1)), div(3, 1, p(0, 1))), always(), stepOf(1, 3, false, 0), acts(at(div(3, 1, p(1, 1))), at(div(3, 2, p(1, 1))))},
	})
}

// An L above 1: what is brought to it is made first, then what divides the variable.
func TestP151Multiples(t *testing.T) {
	five := func(k int) form { return div(5, k, p(1, 1)) }
	even, three := div(2, 0, p(0, 1)), div(3, 0, p(0, 1))
	makeAll(t, []making{
		{someOf(), div(5, 0, p(0, 2), p(1, 1)), or(five(0), five(1), five(2), five(3), five(4)), stepOf(2, 10, false, 0), acts(
			made(div(5, 0, p(0, 1), p(1, 1)), even, and(div(5, 0, p(0, 1), p(1, 1)), even)),
			at(five(1)), at(five(2)), at(five(3)), at(five(4)), at(five(0)), points(5), made(or(five(0), five(1), five(2), five(3), five(4))))},
		// 3 x is above y: there always is one.
		{someOf(), xy(3, -1, 0), always(), stepOf(3, 3, true, 0), acts(made(xy(1, -1, 0), three, and(xy(1, -1, 0), three)), points(3))},
		// 3 x is y: y - 1 is below it, y + 1 above.
		{someOf(), and(xy(3, -1, 1), xy(-3, 1, 1)), div(3, 0, p(1, 1)), stepOf(3, 3, false, 1), acts(
			made(xy(1, -1, 1), xy(-1, 1, 1), and(xy(1, -1, 1), xy(-1, 1, 1)), three, and(xy(1, -1, 1), xy(-1, 1, 1), three)),
			at(), at(div(3, 0, p(1, 1))), at(div(3, 1, p(1, 1))), at(div(3, 2, p(1, 1))))},
	})
	// 2 x is above y, 3 x is below z: 6 x is above 3 y, and below 2 z.
	a := arena.New(nil)
	id := and(xy(2, -1, 0), xz(-3, 1, 0))(a)
	if _, step, e := elim.Some(a, id, 0); tellStep(step) != "{v0, L '6, Delta '6, high false, 1 bounds, 7 points}" || e != api.OK {
		t.Errorf("2 x and 3 x: %s, %v", tellStep(step), e)
	}
}

// Brought to its multiple a formula may come to nothing, or the variable may be gone: then one point is looked at all the
// same.
func TestP151NothingIsLeft(t *testing.T) {
	even := div(2, 0, p(0, 1))
	makeAll(t, []making{
		{someOf(), and(x(1, 0), x(-1, 0)), never(), stepOf(1, 1, false, 0), points(1)},
		{someOf(), or(x(1, 0), x(-1, 1)), always(), stepOf(1, 1, false, 0), points(1)},
		{someOf(), and(never(), x(1, 0)), never(), stepOf(1, 1, false, 0), points(1)},
		{someOf(), or(y(1, 0), and(x(1, 0), x(-1, 0))), y(1, 0), stepOf(1, 1, false, 0), points(1)},
		{someOf(), and(y(1, 0), or(y(1, 0), x(1, 0))), y(1, 0), stepOf(1, 1, false, 0), points(1)},
		{someOf(), or(xy(2, 1, 0), xy(-2, -1, 1)), always(), stepOf(2, 2, false, 0), acts(made(xy(1, 1, 0), xy(-1, -1, 1), even), points(2))},
	})
}

// Any variable may be eliminated: also one that is not the first of its term.
func TestP151AnyVariable(t *testing.T) {
	for _, v := range []int{0, 1, 2, -1, most, least} {
		for _, w := range []int{v - 1, v + 1} {
			a := arena.New(nil)
			f := and(less(0, p(v, 2), p(w, -1)), less(2, p(v, -2), p(w, 1)))(a)
			got := someOf().answer(a, f, v)
			want := answer{div(2, 1, p(w, 1))(a), api.Step{Var: v, L: n(2), Delta: n(2), Bounds: 1, Points: 3}, api.OK}
			if got.String() != want.String() {
				t.Errorf("v%d beside v%d: %s, want %s, in\n%s", v, w, got, want, tellArena(a))
			}
			// Of the other one the opposite is true far below already; its bounds were to be looked at all the same.
			got = allOf().answer(a, f, w)
			if want := (answer{0, api.Step{Var: w, L: n(1), Delta: n(1), Bounds: 1, Points: 1}, api.OK}); got.String() != want.String() {
				t.Errorf("All v%d beside v%d: %s, want %s, in\n%s", w, v, got, want, tellArena(a))
			}
		}
	}
}
