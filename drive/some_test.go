package drive_test

import (
	"testing"

	"riddle/api"
	"riddle/arena"
	"riddle/elim"
)

// gap says that v0 is above v1 and below v2 + k; what comes of it is gone(k), by two points of one step.
func gap(k int) form { return and(xy(1, -1, 0), xz(-1, 1, k)) }

func gone(k int) form { return yz(-1, 1, k-1) }

func gapActs(k int) []act { return acts(at(), at(gone(k))) }

func gapStep() api.Step { return stepOf(0, false, 1, 2) }

// rayStep is that of a bound on one side alone: what comes is 1, by one point.
func rayStep() api.Step { return stepOf(0, true, 0, 1) }

func steps(l ...api.Step) []api.Step { return l }

// Where the variable is not free it is the node itself, whatever it is, without steps; nothing is made or spent, also
// where the meter is over.
func TestP161NotFree(t *testing.T) {
	forms := of(never(), always(), y(1, 0), y(-1, 5), div(3, 1, p(1, 2)), not(3, 1, p(1, 2)), less(0, p(-1, 2), p(1, 3)),
		// What could be simpler stays as it is.
		and(y(1, 0), y(1, -3)), or(y(1, 0), y(-1, 5)), and(never(), y(1, 0)), or(never(), y(1, 0)), or(and(y(1, 0), and(z(1, 0), div(3, 0, p(1, 1)))), or(z(1, 0), not(3, 0, p(1, 1)))),
		// The part of it is gone by the atom's form.
		less(0, p(0, 3), p(1, 1), p(0, -3)), div(5, 1, p(0, 5), p(1, 1)))
	for _, v := range []int{0, 7, -7, most, least} {
		a := arena.New(nil)
		ids := layAll(a, append(forms, behind(of(x(1, 0), and(x(1, 0), y(1, 7))), y(1, 7))))
		for _, over := range []api.Errno{api.OK, api.ErrNodes} {
			if over != api.OK {
				a.Meter().Spend(api.MaxNodes)
			}
			was := tellArena(a)
			for _, id := range ids {
				got := someOf().answer(a, id, v)
				if want := (answer{id: id}); got.String() != want.String() || tellArena(a) != was {
					t.Errorf("of %d and v%d, %v: %s, want %s, in\n%s", id, v, over, got, want, tellArena(a))
				}
			}
		}
	}
}

// An atom, and an And of kids that all have the variable: as a whole.
func TestP161AsAWhole(t *testing.T) {
	threes := func(k int) form { return div(3, k, p(1, 1)) }
	all, inner := and(y(1, 0), xy(1, -1, 0), xz(-1, 1, 0)), and(and(y(1, 0), xy(1, -1, 0)), xz(-1, 1, 0))
	makeAll(t, []making{
		{someOf(), xy(1, -1, 0), always(), steps(rayStep()), points(1)},
		{someOf(), div(3, 0, p(0, 1), p(1, 1)), or(threes(0), threes(1), threes(2)), steps(api.Step{L: n(1), Delta: n(3), Points: 3}), acts(
			at(threes(1)), at(threes(2)), at(threes(0)), made(or(threes(0), threes(1), threes(2))))},
		{someOf(), gap(0), gone(0), steps(gapStep()), gapActs(0)},
		// What is within a kid that has the variable stays there: of an And, and of an Or.
		{someOf(), inner, and(y(1, 0), gone(0)), steps(gapStep()), acts(made(all), at(), at(gone(0), and(y(1, 0), gone(0))))},
		{someOf(), and(or(xy(1, -1, 0), w(1, 0)), x(-1, 9)), or(w(1, 0), y(-1, 8)), steps(stepOf(0, false, 1, 2)), acts(at(), at(y(-1, 8), or(w(1, 0), y(-1, 8))))},
	})
	for row, f := range of(x(1, 0), xy(3, 2, 1), div(6, 2, p(0, 4), p(1, 1)), not(2, 1, p(0, 1), p(3, 1)), gap(3), and(gap(3), x(1, 0)), and(gap(3), or(x(1, 0), w(1, 0))),
		and(or(gap(3), y(1, 0)), or(and(x(2, 1), z(1, 0)), w(1, 0))), and(and(xy(2, 1, 0), z(1, 0)), and(xy(-3, 1, 7), w(1, 0)))) {
		a, b := arena.New(nil), arena.New(nil)
		id, e := f(a), api.OK
		got := someOf().answer(a, id, 0)
		want := answer{steps: make([]api.Step, 1)}
		want.id, want.steps[0], e = elim.Some(b, f(b), 0)
		if e != api.OK || got.String() != want.String() || tellArena(a) != tellArena(b) {
			t.Errorf("row %d: %s, want %s, in\n%s\nwant\n%s", row, got, want, tellArena(a), tellArena(b))
		}
	}
}

// An Or: each kid by itself, in the order in which it has them, then all are joined; none is left out because another one
// came to 1.
func TestP161Or(t *testing.T) {
	two := func(k, l int) form { return or(gap(k), gap(l)) }
	makeAll(t, []making{
		{someOf(), or(xy(1, -1, 0), xz(1, -1, 0)), always(), steps(rayStep(), rayStep()), points(2)},
		{someOf(), or(gap(0), y(1, 0)), or(gone(0), y(1, 0)), steps(gapStep()), acts(gapActs(0), made(or(gone(0), y(1, 0))))},
		{someOf(), or(y(1, 0), z(1, 0), gap(0)), or(y(1, 0), z(1, 0), gone(0)), steps(gapStep()), acts(gapActs(0), made(or(y(1, 0), z(1, 0), gone(0))))},
		{someOf(), or(xy(1, -1, 0), gap(0), w(1, 0)), always(), steps(rayStep(), gapStep()), acts(points(1), gapActs(0))},
		// What came is made simpler.
		{someOf(), two(0, 5), gone(5), steps(gapStep(), gapStep()), acts(gapActs(0), gapActs(5))},
		{someOf(), behind(of(gap(5)), two(0, 5)), gone(5), steps(gapStep(), gapStep()), acts(gapActs(5), gapActs(0))},
		{someOf(), or(never(), gap(0)), gone(0), steps(gapStep()), gapActs(0)}, {someOf(), or(always(), gap(0)), always(), steps(gapStep()), gapActs(0)},
		// Different steps: they stand in the order of the kids.
		{someOf(), behind(of(xy(1, -1, 0), gap(0), x(-1, 3)), or(gap(0), x(-1, 3), xy(1, -1, 0))), always(), steps(rayStep(), gapStep(), stepOf(0, false, 0, 1)), acts(points(1), gapActs(0), points(1))},
		{someOf(), behind(of(gap(0), x(-1, 3), x(1, 8)), or(x(1, 8), x(-1, 3), gap(0))), always(), steps(gapStep(), stepOf(0, false, 0, 1), rayStep()), acts(gapActs(0), points(2))},
		// Ors within Ors, each joined when its kids have come.
		{someOf(), or(or(gap(0), z(1, 0)), gap(5), w(1, 0)), or(gone(5), z(1, 0), w(1, 0)), steps(gapStep(), gapStep()), acts(
			gapActs(0), made(or(gone(0), z(1, 0))), gapActs(5), made(or(gone(5), z(1, 0), w(1, 0))))},
		{someOf(), or(or(or(gap(0), z(1, 0)), w(1, 0)), or(gap(5), y(1, 0))), or(gone(5), z(1, 0), w(1, 0), y(1, 0)), steps(gapStep(), gapStep()), acts(
			gapActs(0), made(or(gone(0), z(1, 0)), or(gone(0), z(1, 0), w(1, 0))), gapActs(5), made(or(gone(5), y(1, 0)), or(gone(5), z(1, 0), w(1, 0), y(1, 0))))},
	})
}

// An And that has kids without the variable: the others are joined first, then the variable is eliminated from these, then
// all is joined.
func TestP161And(t *testing.T) {
	makeAll(t, []making{
		{someOf(), and(y(1, 0), xy(1, -1, 0)), y(1, 0), steps(rayStep()), points(1)},
		{someOf(), and(w(1, 0), xy(1, -1, 0), xz(-1, 1, 0)), and(w(1, 0), gone(0)), steps(gapStep()), acts(made(gap(0)), gapActs(0), made(and(w(1, 0), gone(0))))},
		// What is there is not made.
		{someOf(), behind(of(gap(0)), and(w(1, 0), xy(1, -1, 0), xz(-1, 1, 0))), and(w(1, 0), gone(0)), steps(gapStep()), acts(gapActs(0), made(and(w(1, 0), gone(0))))},
		// Several without it.
		{someOf(), and(w(1, 0), xy(1, -1, 0), y(1, 0), xz(-1, 1, 0), z(1, 0)), and(w(1, 0), y(1, 0), z(1, 0), gone(0)), steps(gapStep()), acts(
			made(gap(0)), gapActs(0), made(and(w(1, 0), y(1, 0), z(1, 0), gone(0))))},
		{someOf(), and(w(1, 0), y(1, 0), x(1, 0), z(1, 0)), and(w(1, 0), y(1, 0), z(1, 0)), steps(rayStep()), acts(points(1), made(and(w(1, 0), y(1, 0), z(1, 0))))},
		// All but one have it.
		{someOf(), and(xy(1, -1, 0), xz(-1, 1, 0), x(-1, 9), w(1, 0)), and(w(1, 0), gone(0), y(-1, 8)), steps(gapStep()), acts(
			made(and(xy(1, -1, 0), xz(-1, 1, 0), x(-1, 9))), at(), at(gone(0), y(-1, 8), and(gone(0), y(-1, 8))), made(and(w(1, 0), gone(0), y(-1, 8))))},
		// What is joined is made simpler: those that have it, and all behind that.
		{someOf(), and(w(1, 0), xy(1, -1, 0), xy(1, -1, -4)), w(1, 0), steps(rayStep()), points(1)},
		{someOf(), and(gone(-3), xy(1, -1, 0), xz(-1, 1, 0)), gone(-3), steps(gapStep()), acts(made(gap(0)), gapActs(0))},
		{someOf(), and(always(), xy(1, -1, 0), xz(-1, 1, 0)), gone(0), steps(gapStep()), acts(made(gap(0)), gapActs(0))},
		{someOf(), and(never(), xy(1, -1, 0), xz(-1, 1, 0)), never(), steps(gapStep()), acts(made(gap(0)), gapActs(0))},
		{someOf(), and(yz(1, -1, 2), xy(1, -1, 0), xz(-1, 1, 0)), never(), steps(gapStep()), acts(made(gap(0)), gapActs(0))},
		// It may be gone then: no steps.
		{someOf(), and(w(1, 0), x(1, 0), x(-1, 0)), never(), nil, nil},
		{someOf(), and(w(1, 0), and(y(1, 0), or(y(1, 0), x(1, 0)))), and(w(1, 0), y(1, 0)), nil, made(and(w(1, 0), y(1, 0)))},
	})
}

// Ands within Ands that were not made simpler: what was joined is looked at again.
func TestP161AndWithinAnd(t *testing.T) {
	three := and(y(1, 0), xy(1, -1, 0), xz(-1, 1, 0))
	four := and(y(1, 0), z(1, 0), xy(1, -1, 0), xz(-1, 1, 0))
	makeAll(t, []making{
		{someOf(), and(w(1, 0), and(y(1, 0), xy(1, -1, 0))), and(w(1, 0), y(1, 0)), steps(rayStep()), acts(points(1), made(and(w(1, 0), y(1, 0))))},
		{someOf(), and(w(1, 0), three), and(w(1, 0), y(1, 0), gone(0)), steps(gapStep()), acts(
			made(gap(0)), gapActs(0), made(and(y(1, 0), gone(0)), and(w(1, 0), y(1, 0), gone(0))))},
		{someOf(), and(w(1, 0), and(y(1, 0), xy(1, -1, 0)), and(z(1, 0), xz(-1, 1, 0))), and(w(1, 0), y(1, 0), z(1, 0), gone(0)), steps(gapStep()), acts(
			made(four, gap(0)), gapActs(0), made(and(y(1, 0), z(1, 0), gone(0)), and(w(1, 0), y(1, 0), z(1, 0), gone(0))))},
		{someOf(), and(w(1, 0), and(z(1, 0), three)), and(w(1, 0), y(1, 0), z(1, 0), gone(0)), steps(gapStep()), acts(
			made(four, gap(0)), gapActs(0), made(and(y(1, 0), z(1, 0), gone(0)), and(w(1, 0), y(1, 0), z(1, 0), gone(0))))},
	})
}

// Ors and Ands within one another.
func TestP161Nested(t *testing.T) {
	one, other := and(w(1, 0), xy(1, -1, 0)), and(z(1, 0), xy(1, -1, 0))
	makeAll(t, []making{
		// What is left of an And is an Or; of an Or's kid an And.
		{someOf(), and(w(1, 0), or(gap(0), gap(5))), and(w(1, 0), gone(5)), steps(gapStep(), gapStep()), acts(gapActs(0), gapActs(5), made(and(w(1, 0), gone(5))))},
		{someOf(), or(y(1, 0), and(w(1, 0), xy(1, -1, 0), xz(-1, 1, 0))), or(y(1, 0), and(w(1, 0), gone(0))), steps(gapStep()), acts(
			made(gap(0)), gapActs(0), made(and(w(1, 0), gone(0)), or(y(1, 0), and(w(1, 0), gone(0)))))},
		{someOf(), or(x(1, 0), and(w(1, 0), or(z(1, 0), and(y(1, 0), or(gap(0), yz(1, 1, 0)))))), always(), steps(rayStep(), gapStep()), acts(
			points(1), gapActs(0), made(or(gone(0), yz(1, 1, 0)), and(y(1, 0), or(gone(0), yz(1, 1, 0))), or(z(1, 0), and(y(1, 0), or(gone(0), yz(1, 1, 0)))),
				and(w(1, 0), or(z(1, 0), and(y(1, 0), or(gone(0), yz(1, 1, 0))))))),
		},
		// The kids without it are joined only where the others have come.
		{someOf(), and(w(1, 0), or(gap(0), z(1, 0)), y(1, 0)), and(w(1, 0), y(1, 0), or(gone(0), z(1, 0))), steps(gapStep()), acts(
			gapActs(0), made(or(gone(0), z(1, 0)), and(w(1, 0), y(1, 0), or(gone(0), z(1, 0)))))},
		// A node that hangs below several has its step for each of them.
		{someOf(), or(one, other), or(w(1, 0), z(1, 0)), steps(rayStep(), rayStep()), acts(points(2), made(or(w(1, 0), z(1, 0))))},
		{someOf(), or(gap(0), and(w(1, 0), gap(0))), gone(0), steps(gapStep(), gapStep()), acts(gapActs(0), points(2), made(and(w(1, 0), gone(0))))},
		{someOf(), or(and(w(1, 0), or(gap(0), y(1, 0))), and(z(1, 0), or(gap(0), y(1, 0)))), or(and(w(1, 0), or(gone(0), y(1, 0))), and(z(1, 0), or(gone(0), y(1, 0)))), steps(gapStep(), gapStep()), acts(
			gapActs(0), made(or(gone(0), y(1, 0)), and(w(1, 0), or(gone(0), y(1, 0)))), points(2), made(and(z(1, 0), or(gone(0), y(1, 0))), or(and(w(1, 0), or(gone(0), y(1, 0))), and(z(1, 0), or(gone(0), y(1, 0))))))},
		// What comes without a step comes so each time.
		{someOf(), or(and(w(1, 0), and(y(1, 0), x(1, 0), x(-1, 0))), and(z(1, 0), and(y(1, 0), x(1, 0), x(-1, 0))), gap(0)), gone(0), steps(gapStep()), gapActs(0)},
	})
}

// Any variable may be eliminated: also one that is not the first of its term.
func TestP161AnyVariable(t *testing.T) {
	for _, v := range []int{0, 1, 2, -1, most, least} {
		for _, other := range []int{v - 1, v + 1} {
			a := arena.New(nil)
			f := and(less(4, p(other, 1)), less(0, p(v, 2), p(other, -1)), less(2, p(v, -2), p(other, 1)))(a)
			got := someOf().answer(a, f, v)
			want := answer{and(less(4, p(other, 1)), div(2, 1, p(other, 1)))(a), steps(api.Step{Var: v, L: n(2), Delta: n(2), Bounds: 1, Points: 3}), api.OK}
			if got.String() != want.String() {
				t.Errorf("v%d beside v%d: %s, want %s, in\n%s", v, other, got, want, tellArena(a))
			}
		}
	}
}
