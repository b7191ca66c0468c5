package unit_test

import (
	"testing"

	"riddle/api"
	"riddle/arena"
	"riddle/unit"
)

// lcmIs fails unless Lcm of a formula and a variable is that number, and nothing is made.
func lcmIs(t *testing.T, at int, f form, v int, want api.Int) {
	t.Helper()
	a := arena.New(nil)
	id := f(a)
	was := tellArena(a)
	if l, e := unit.Lcm(a, id, v); !isInt(l, want) || e != api.OK || tellArena(a) != was {
		t.Errorf("row %d, v%d: %s, %v, want %s, in\n%s", at, v, tellInt(l), e, tellInt(want), tellArena(a))
	}
}

// Where the variable is in no atom, it is 1: whatever other variables, constants and divisors there are.
func TestP131InNone(t *testing.T) {
	for at, f := range []form{
		never(), always(), y(1, 0), y(-1, 7), less(3, p(1, 4), p(2, 6)), div(6, 1, p(1, 1)), not(6, 5, p(1, 1)), div(35, 0, p(1, 5), p(2, 7)), and(y(1, 0), div(4, 1, p(2, 1))), or(y(1, 0), and(less(0, p(1, 3), p(2, 5)), less(9, p(1, 7), p(2, -2)))), and(never(), y(1, 0)),
		// What stands beside it in the arena doesn't count.
		behind(of(xy(5, 1, 0), div(7, 0, p(0, 3), p(1, 1)), and(xy(5, 1, 0), xy(3, 1, 0))), y(1, 0)), behind(of(xy(5, 1, 0)), always()),
		// The part of it was 0, and is gone by the atom's form.
		less(0, p(0, 3), p(1, 1), p(0, -3)), div(5, 1, p(0, 5), p(1, 1)), not(5, 1, p(0, -10), p(1, 1)),
	} {
		lcmIs(t, at, f, 0, n(1))
	}
	for _, v := range []int{-1, 2, most, least} {
		lcmIs(t, v, and(xy(5, 3, 1), div(7, 0, p(0, 3), p(1, 2))), v, n(1))
	}
}

// In one atom it is the coefficient's magnitude, in an atom of any kind, on either side of 0.
func TestP131InOne(t *testing.T) {
	for at, l := range []struct {
		f    form
		want int
	}{
		{x(1, 0), 1}, {x(-1, 4), 1}, {x(6, 5), 1}, {xy(1, 5, 0), 1}, {xy(-1, 5, 0), 1}, {xy(5, 1, 0), 5}, {xy(-5, 1, 0), 5}, {xy(5, -1, 3), 5}, {xy(-12, 35, 3), 12}, {xy(4, 6, 3), 2},
		{div(7, 0, p(0, 1)), 1}, {div(7, 1, p(0, 2)), 2}, {div(7, 1, p(0, 3)), 3}, {div(7, 1, p(0, -3)), 3}, {div(9, 3, p(0, 6)), 1}, {div(-7, 1, p(0, 4)), 3}, {not(7, 1, p(0, 3)), 3}, {not(11, 1, p(0, 5), p(1, 7)), 5}, {not(7, 0, p(0, 2), p(1, 1)), 2},
		{and(y(1, 0), xy(5, 1, 0)), 5}, {or(xy(-5, 1, 0), y(1, 0)), 5}, {and(always(), xy(5, 1, 0)), 5}, {or(div(35, 1, p(1, 7)), and(less(0, p(1, 9), p(2, 2)), xy(-5, 1, 0))), 5}, {and(never(), xy(5, 1, 0)), 5},
	} {
		lcmIs(t, at, l.f, 0, n(l.want))
	}
	// Of a variable that is not the first one a divisibility may have any coefficient below its D.
	lcmIs(t, 100, div(7, 0, p(0, 1), p(1, 6)), 1, n(6))
	lcmIs(t, 101, not(7, 0, p(0, 1), p(1, -2)), 1, n(5))
	lcmIs(t, 102, less(0, p(least, 3), p(most, -7)), least, n(3))
	lcmIs(t, 103, less(0, p(least, 3), p(most, -7)), most, n(7))
}

// In several it is the least common multiple: where they divide one another, have something in common, or nothing.
func TestP131InSeveral(t *testing.T) {
	for at, l := range []struct {
		f    form
		want int
	}{
		{and(xy(2, 1, 0), xy(4, 1, 0)), 4}, {and(xy(8, 1, 0), xy(2, 1, 0), xy(4, 1, 0)), 8}, {or(xy(4, 1, 0), xy(6, 1, 0)), 12}, {or(xy(-4, 1, 0), xy(6, 1, 0)), 12}, {or(xy(4, 1, 0), xy(-6, 1, 0)), 12}, {or(xy(-4, 1, 0), xy(-6, 1, 0)), 12},
		{and(xy(3, 1, 0), xy(5, 1, 0), xy(7, 1, 0)), 105}, {and(xy(6, 1, 0), xy(10, 1, 0), xy(15, 1, 0)), 30}, {and(xy(5, 1, 0), xy(5, 2, 0), xy(-5, 1, 0), xy(-5, 3, 9)), 5}, {and(x(1, 0), x(-1, 9), xy(4, 1, 0)), 4}, {and(x(1, 0), x(-1, 9)), 1},
		{and(xy(2, 1, 0), div(7, 0, p(0, 3)), not(11, 0, p(0, 5))), 30}, {and(xy(2, 1, 0), div(7, 1, p(0, 3)), not(11, 1, p(0, 5))), 30}, {or(div(7, 1, p(0, 3)), not(7, 1, p(0, 3))), 3}, {or(not(11, 1, p(0, 4)), div(13, 1, p(0, 6))), 12}, {or(xy(9, 1, 0), and(xy(6, 1, 0), or(not(11, 1, p(0, 4)), y(1, 0)))), 36},
		// The other variables', the constants and the D don't count.
		{and(xy(2, 7, 9), div(11, 5, p(0, 3), p(1, 5)), less(4, p(1, 13), p(2, 17))), 6}, {and(less(7, p(-1, 5), p(0, 2), p(1, 7)), less(1, p(-1, 11), p(0, 3))), 6},
	} {
		lcmIs(t, at, l.f, 0, n(l.want))
	}
	f := and(xy(2, 7, 9), div(11, 5, p(0, 3), p(1, 5)), less(4, p(1, 13), p(2, 17)))
	lcmIs(t, 100, f, 1, n(7*5*13))
	lcmIs(t, 101, f, 2, n(17))
}

// An atom counts once, at however many places it hangs; so does a formula.
func TestP131Shared(t *testing.T) {
	one, other := xy(6, 1, 0), xy(4, 1, 0)
	lcmIs(t, 0, and(or(one, other), or(one, y(1, 0)), one), 0, n(12))
	lcmIs(t, 1, or(and(or(one, y(1, 0)), other), and(or(one, y(1, 0)), y(1, 5))), 0, n(12))
	lcmIs(t, 2, or(and(one, y(1, 0)), and(one, y(1, 1)), and(one, y(1, 2))), 0, n(6))
}

// Great coefficients: L may have far more limbs than a node's number.
func TestP131GreatOnes(t *testing.T) {
	for limbs := 1; limbs <= api.MaxLimbs; limbs++ {
		lcmIs(t, limbs, bigLess(n(0), big(0, widest(limbs)), p(1, 1)), 0, widest(limbs))
		lcmIs(t, limbs, bigLess(n(0), big(0, opposite(wide(limbs))), p(1, 1)), 0, wide(limbs))
		lcmIs(t, limbs, and(bigLess(n(0), big(0, opposite(wide(limbs))), p(1, 1)), bigLess(n(3), big(0, wide(limbs)), p(1, 5))), 0, wide(limbs))
	}
	lcmIs(t, 10, and(bigLess(n(0), big(0, wide(2)), p(1, 1)), xy(3, 1, 0)), 0, limbs(0, 3))
	lcmIs(t, 11, and(bigLess(n(0), big(0, wide(2)), p(1, 1)), xy(6, 1, 0)), 0, limbs(0, 3))
	lcmIs(t, 12, and(bigLess(n(0), big(0, wide(8)), p(1, 1)), bigLess(n(0), big(0, limbs(0, 1<<31)), p(1, 1))), 0, wide(8))
	lcmIs(t, 13, and(bigLess(n(0), big(0, wide(8)), p(1, 1)), bigLess(n(0), big(0, opposite(widest(1))), p(1, 1))), 0, limbs(0, 0, 0, 0, 0, 0, 0, top))
	// Powers of 2^32 have nothing in common with numbers that end with an odd limb.
	odd := limbs(7, 0, 0, 0, 0, 0, 0, 5)
	lcmIs(t, 14, and(bigLess(n(0), big(0, wide(8)), p(1, 1)), bigLess(n(0), big(0, odd), p(1, 1))), 0, limbs(0, 0, 0, 0, 0, 0, 0, 7, 0, 0, 0, 0, 0, 0, 5))
	lcmIs(t, 15, or(bigLess(n(0), big(0, wide(8)), p(1, 1)), bigDiv(limbs(0, 0, 0, 0, 0, 0, 0, 1<<31), n(1), big(0, odd))), 0, limbs(0, 0, 0, 0, 0, 0, 0, 7, 0, 0, 0, 0, 0, 0, 5))
}
