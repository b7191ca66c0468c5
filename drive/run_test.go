package drive_test

import (
	"testing"

	"riddle/api"
	"riddle/arena"
)

// The examples of the chapter.
func TestExamples(t *testing.T) {
	upward := xy(-1, 1, 0)
	makeAll(t, []making{
		{runOf(), some(0, or(xy(1, -1, 0), xz(1, -1, 0))), always(), steps(rayStep(), rayStep()), points(2)},
		{runOf(), some(0, and(y(1, 0), xy(1, -1, 0))), y(1, 0), steps(rayStep()), points(1)},
		{runOf(), all(0, some(1, upward)), always(), steps(stepOf(1, true, 0, 1)), points(1)},
		{runOf(), some(1, all(0, upward)), never(), steps(rayStep()), acts(made(xy(1, -1, 1)), points(1))},
		{runOf(), and(y(1, 0), and(z(1, 0), y(1, -3))), and(z(1, 0), y(1, -3)), nil, nil},
	})
}

// Examples of the whole: each x is even or odd; no 2 x is 3; y < 2 x < y + 2; x above y and below z; x below y; x below y
// implies x below z.
func TestExamplesOfTheWhole(t *testing.T) {
	same := func(c, e, k int) form { return and(xy(c, e, k+1), xy(-c, -e, 1-k)) }
	for row, l := range []struct{ of, want form }{
		{all(0, some(1, or(same(-1, 2, 0), same(-1, 2, -1)))), always()}, {some(0, and(x(2, -2), x(-2, 4))), never()},
		{some(0, and(xy(2, -1, 0), xy(-2, 1, 2))), div(2, 1, p(1, 1))}, {some(0, gap(0)), gone(0)}, {all(0, xy(-1, 1, 0)), never()},
		{all(0, or(xy(1, -1, 1), xz(-1, 1, 0))), yz(-1, 1, 1)}, {some(0, some(1, and(less(0, p(0, 3), p(1, 5)), less(2, p(0, -3), p(1, -5)), x(1, 0)))), always()},
	} {
		a := arena.New(nil)
		got := runOf().answer(a, l.of(a), 0)
		if want := l.want(a); got.id != want || got.e != api.OK {
			t.Errorf("row %d: %s, want %d, in\n%s", row, got, want, tellArena(a))
		}
	}
}

// Constants and atoms are themselves; what is joined is joined anew.
func TestP162Plain(t *testing.T) {
	three := div(3, 0, p(1, 1))
	makeAll(t, []making{
		{runOf(), never(), never(), nil, nil}, {runOf(), always(), always(), nil, nil}, {runOf(), x(1, 0), x(1, 0), nil, nil},
		{runOf(), three, three, nil, nil}, {runOf(), not(3, 1, p(0, 1)), not(3, 1, p(0, 1)), nil, nil},
		{runOf(), gap(0), gap(0), nil, nil}, {runOf(), or(gap(0), y(1, 0)), or(gap(0), y(1, 0)), nil, nil},
		{runOf(), and(y(1, 0), y(1, -3)), y(1, -3), nil, nil}, {runOf(), or(y(1, 0), y(1, -3)), y(1, 0), nil, nil},
		{runOf(), and(y(1, 0), y(-1, 0)), never(), nil, nil}, {runOf(), or(three, not(3, 0, p(1, 1))), always(), nil, nil},
		{runOf(), and(x(1, 0), and(y(1, 0), and(z(1, 0), always()))), and(x(1, 0), y(1, 0), z(1, 0)), nil, made(and(y(1, 0), z(1, 0)), and(x(1, 0), y(1, 0), z(1, 0)))},
		{runOf(), or(and(x(1, 0), always()), or(never(), z(1, 0))), or(x(1, 0), z(1, 0)), nil, made(or(x(1, 0), z(1, 0)))},
		{runOf(), and(or(x(1, 0), x(1, -2)), or(and(y(1, 0), x(1, 0), always()), z(1, 0))), and(x(1, 0), or(and(y(1, 0), x(1, 0)), z(1, 0))), nil,
			made(and(y(1, 0), x(1, 0)), or(and(y(1, 0), x(1, 0)), z(1, 0)), and(x(1, 0), or(and(y(1, 0), x(1, 0)), z(1, 0))))},
	})
}

// Of a Some what came of its kid, made simpler by then, within as little as may be; of an All its opposite, and back.
func TestP162Quantifiers(t *testing.T) {
	left, right := xy(-1, 1, 1), xz(1, -1, 1)
	makeAll(t, []making{
		{runOf(), some(0, gap(0)), gone(0), steps(gapStep()), gapActs(0)},
		{runOf(), some(0, x(1, 0)), always(), steps(rayStep()), points(1)},
		{runOf(), some(0, and(w(1, 0), xy(1, -1, 0), xz(-1, 1, 0))), and(w(1, 0), gone(0)), steps(gapStep()), acts(made(gap(0)), gapActs(0), made(and(w(1, 0), gone(0))))},
		{runOf(), some(0, or(or(gap(0), z(1, 0)), w(1, 0))), or(gone(0), z(1, 0), w(1, 0)), steps(gapStep()), acts(
			made(or(gap(0), z(1, 0), w(1, 0))), gapActs(0), made(or(gone(0), z(1, 0), w(1, 0))))},
		// Made simpler first, so that it is gone, or stands within less.
		{runOf(), some(0, and(x(1, 0), x(-1, 0))), never(), nil, nil}, {runOf(), some(0, or(x(1, 0), x(-1, 1))), always(), nil, nil},
		{runOf(), some(0, and(y(1, 0), or(y(1, 0), x(1, 0)))), y(1, 0), nil, nil},
		{runOf(), some(0, and(and(y(1, 0), xy(1, -1, 0)), xz(-1, 1, 0))), and(y(1, 0), gone(0)), steps(gapStep()), acts(
			made(and(y(1, 0), xy(1, -1, 0), xz(-1, 1, 0)), gap(0)), gapActs(0), made(and(y(1, 0), gone(0))))},
		// All: the opposites are made ahead and behind.
		{runOf(), all(0, x(1, -3)), never(), steps(stepOf(0, false, 0, 1)), acts(made(x(-1, 4)), points(1))},
		{runOf(), all(0, or(left, right)), yz(1, -1, 2), steps(gapStep()), acts(made(xy(1, -1, 0), xz(-1, 1, 0), gap(0)), gapActs(0), made(yz(1, -1, 2)))},
		{runOf(), all(0, or(left, right, w(1, 0))), or(w(1, 0), yz(1, -1, 2)), steps(gapStep()), acts(
			made(xy(1, -1, 0), xz(-1, 1, 0), w(-1, 1), and(xy(1, -1, 0), xz(-1, 1, 0), w(-1, 1)), gap(0)), gapActs(0), made(and(w(-1, 1), gone(0)), yz(1, -1, 2), or(w(1, 0), yz(1, -1, 2))))},
		// An And below an All is an Or: each kid by itself.
		{runOf(), all(0, and(x(1, 0), x(-1, 5))), never(), steps(stepOf(0, false, 0, 1), rayStep()), acts(made(x(-1, 1), x(1, -4), or(x(-1, 1), x(1, -4))), points(2))},
		{runOf(), all(0, and(y(1, 0), or(left, right))), and(y(1, 0), yz(1, -1, 2)), steps(gapStep()), acts(
			made(y(-1, 1), xy(1, -1, 0), xz(-1, 1, 0), gap(0), or(y(-1, 1), gap(0))), gapActs(0), made(or(y(-1, 1), gone(0)), yz(1, -1, 2), and(y(1, 0), yz(1, -1, 2))))},
	})
}

// A quantifier whose variable is not free below it: of a Some it is what came of its kid; of an All both opposites are made
// all the same.
func TestP162NotFree(t *testing.T) {
	three, noThree := div(3, 0, p(1, 1)), not(3, 0, p(1, 1))
	makeAll(t, []making{
		{runOf(), some(5, y(1, 0)), y(1, 0), nil, nil}, {runOf(), some(least, never()), never(), nil, nil}, {runOf(), all(most, always()), always(), nil, nil}, {runOf(), all(5, never()), never(), nil, nil},
		{runOf(), all(5, y(1, 0)), y(1, 0), nil, made(y(-1, 1))}, {runOf(), all(5, and(y(1, 0), three)), and(y(1, 0), three), nil, made(y(-1, 1), noThree, or(y(-1, 1), noThree))},
		{runOf(), some(5, and(y(1, 0), y(1, -3))), y(1, -3), nil, nil}, {runOf(), all(5, and(y(1, 0), y(1, -3))), y(1, -3), nil, made(y(-1, 4))},
		{runOf(), some(5, some(6, all(7, y(1, 0)))), y(1, 0), nil, made(y(-1, 1))},
		// It was free there, but what came has it no more.
		{runOf(), some(1, some(0, and(xy(1, -1, 0), w(1, 0)))), w(1, 0), steps(rayStep()), points(1)},
	})
}

// Quantifiers within one another, the innermost first: also of the same variable, where the inner one binds what is below
// it.
func TestP162Nested(t *testing.T) {
	both := and(x(1, 0), gone(0))
	makeAll(t, []making{
		{runOf(), some(0, and(x(1, 0), some(0, gap(0)))), gone(0), steps(gapStep(), rayStep()), acts(gapActs(0), made(both), points(1))},
		{runOf(), some(0, some(0, gap(0))), gone(0), steps(gapStep()), gapActs(0)},
		{runOf(), all(0, some(0, gap(0))), gone(0), steps(gapStep()), acts(gapActs(0), made(yz(1, -1, 2)))},
		{runOf(), and(x(1, 0), some(0, gap(0))), both, steps(gapStep()), acts(gapActs(0), made(both))},
		// Different ones: z is above y + 1, then above nothing.
		{runOf(), some(2, some(0, gap(0))), always(), steps(gapStep(), stepOf(2, true, 0, 1)), acts(gapActs(0), points(1))},
		{runOf(), all(1, some(2, some(0, gap(0)))), always(), steps(gapStep(), stepOf(2, true, 0, 1)), acts(gapActs(0), points(1))},
		{runOf(), some(2, all(1, some(0, gap(0)))), never(), steps(gapStep(), stepOf(1, true, 0, 1)), acts(gapActs(0), made(yz(1, -1, 2)), points(1))},
		{runOf(), all(2, all(1, some(0, gap(0)))), never(), steps(gapStep(), stepOf(1, true, 0, 1)), acts(gapActs(0), made(yz(1, -1, 2)), points(1))},
		// A quantifier within an And within a quantifier, and so on.
		{runOf(), some(1, and(y(1, 0), or(some(0, gap(0)), w(1, 0)))), or(w(1, 0), less(-2, p(2, 1))), steps(gapStep(), api.Step{Var: 1, L: n(1), Delta: n(1), Bounds: 1, Points: 2}), acts(
			gapActs(0), made(or(gone(0), w(1, 0)), and(y(1, 0), or(gone(0), w(1, 0)))), at(), at(less(-2, p(2, 1)), or(w(1, 0), less(-2, p(2, 1)))))},
		{runOf(), or(all(0, x(1, 0)), and(some(0, x(1, 0)), all(1, some(0, xy(1, 1, 0))))), always(), steps(stepOf(0, false, 0, 1), rayStep(), rayStep()), acts(
			made(x(-1, 1)), points(3))},
	})
}

// Each distinct node comes once, also where it hangs below several; two nodes that come to the same are two.
func TestP162Once(t *testing.T) {
	makeAll(t, []making{
		{runOf(), and(some(0, gap(0)), or(some(0, gap(0)), w(1, 0))), gone(0), steps(gapStep()), acts(gapActs(0), made(or(gone(0), w(1, 0))))},
		{runOf(), or(and(some(0, gap(0)), w(1, 0)), and(some(0, gap(0)), z(1, 0))), or(and(gone(0), w(1, 0)), and(gone(0), z(1, 0))), steps(gapStep()), acts(
			gapActs(0), made(and(gone(0), w(1, 0)), and(gone(0), z(1, 0)), or(and(gone(0), w(1, 0)), and(gone(0), z(1, 0)))))},
		{runOf(), some(1, or(some(0, gap(0)), some(2, some(0, gap(0))))), always(), steps(gapStep(), stepOf(2, true, 0, 1)), acts(gapActs(0), points(1))},
		{runOf(), or(all(0, x(1, -3)), some(1, all(0, x(1, -3)))), never(), steps(stepOf(0, false, 0, 1)), acts(made(x(-1, 4)), points(1))},
		// The kid is the same, the quantifiers are not.
		{runOf(), and(some(0, gap(0)), all(0, gap(0))), never(), steps(gapStep(), stepOf(0, false, 0, 1), rayStep()), acts(gapActs(0), made(xy(-1, 1, 1), xz(1, -1, 1), or(xy(-1, 1, 1), xz(1, -1, 1))), points(2))},
		// What came of the kids is the same, the kids are not.
		{runOf(), and(some(0, gap(0)), some(0, and(gap(0), always()))), gone(0), steps(gapStep(), gapStep()), acts(gapActs(0), points(2))},
		{runOf(), or(some(0, x(1, 0)), some(0, and(x(1, 0), x(1, -3), always())), some(0, or(x(1, 0), never()))), always(), steps(rayStep(), rayStep(), rayStep()), points(3)},
	})
}

// Kids come in the order of their numbers, each with all that hangs below it ahead of the next one, and of the node itself:
// not all nodes in the order of their numbers.
func TestP162OrderOfMaking(t *testing.T) {
	one, two := some(0, gap(0)), some(0, gap(5))
	makeAll(t, []making{
		{runOf(), behind(of(two), and(one, two, w(1, 0))), and(gone(0), w(1, 0)), steps(gapStep(), gapStep()), acts(gapActs(5), gapActs(0), made(and(gone(0), w(1, 0))))},
		{runOf(), behind(of(two), and(or(one, w(1, 0)), or(two, z(1, 0)))), and(or(gone(0), w(1, 0)), or(gone(5), z(1, 0))), steps(gapStep(), gapStep()), acts(
			gapActs(0), made(or(gone(0), w(1, 0))), gapActs(5), made(or(gone(5), z(1, 0)), and(or(gone(0), w(1, 0)), or(gone(5), z(1, 0)))))},
		{runOf(), behind(of(one, or(two, z(1, 0))), and(or(two, z(1, 0)), or(one, w(1, 0)))), and(or(gone(0), w(1, 0)), or(gone(5), z(1, 0))), steps(gapStep(), gapStep()), acts(
			gapActs(5), made(or(gone(5), z(1, 0))), gapActs(0), made(or(gone(0), w(1, 0)), and(or(gone(0), w(1, 0)), or(gone(5), z(1, 0)))))},
		// Steps of different kinds, in their order.
		{runOf(), behind(of(all(0, x(1, -3)), one, some(0, xy(1, -1, 0))), or(some(0, xy(1, -1, 0)), one, all(0, x(1, -3)))), always(), steps(stepOf(0, false, 0, 1), gapStep(), rayStep()), acts(
			made(x(-1, 4)), points(1), gapActs(0), points(1))},
	})
}
