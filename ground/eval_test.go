package ground_test

import (
	"slices"
	"testing"

	"riddle/api"
	"riddle/arena"
	"riddle/ground"
	"riddle/zint"
)

// The constants are what they are, whatever the values are.
func TestP171Constants(t *testing.T) {
	whatever := rows(nil, row(), at(0), at(-5, 7), row(val(most, 1), val(least, -1)), bigAt(widest(40)))
	claims(t, []claim{{of: always(), yes: whatever}, {of: never(), no: whatever}})
}

// A Less, next to where it changes.
func TestP171Less(t *testing.T) {
	claims(t, []claim{
		{x(1, 0), rows(at(1), at(2), at(9)), rows(at(0), at(-1), at(-9))}, {x(-1, 0), rows(at(-1), at(-9)), rows(at(0), at(1))}, {x(1, -3), rows(at(4)), rows(at(3), at(-4))}, {x(-1, -3), rows(at(-4)), rows(at(-3), at(4))},
		{xy(1, -1, 0), rows(at(4, 3), at(-3, -4), at(1, -1)), rows(at(3, 3), at(3, 4), at(-1, 1))}, {xy(2, -3, 1), rows(at(0, 0), at(3, 2), at(-1, -1)), rows(at(1, 1), at(0, 1), at(-2, -1))},
		{less(-1, p(0, 5), p(1, -7), p(2, 2)), rows(at(0, 0, 1), at(3, 2, 1), at(-3, -3, -2)), rows(at(0, 0, 0), at(3, 2, 0), at(-3, -2, 1))},
		{less(0, p(least, 1), p(most, -1)), rows(row(val(least, 3), val(most, 2)), row(val(most, -1), val(least, 0))), rows(row(val(least, 2), val(most, 2)), row(val(most, 3), val(least, 2)))},
	})
}

// A Div and a Not: what is left is 0, or isn't, on both sides of 0.
func TestP171Divisibilities(t *testing.T) {
	for _, c := range []claim{
		{div(2, 0, p(0, 1)), rows(at(0), at(2), at(-2), at(-8)), rows(at(1), at(-1), at(7), at(-7))}, {div(3, 1, p(0, 1)), rows(at(2), at(-1), at(-4), at(5)), rows(at(0), at(1), at(-2), at(-3), at(4))}, {div(-3, 1, p(0, 1)), rows(at(2), at(-1)), rows(at(1), at(-2))},
		{div(5, 2, p(0, 3), p(1, -2)), rows(at(0, 1), at(1, 0), at(-1, 2), at(-2, -2)), rows(at(0, 0), at(1, 1), at(-1, 0), at(2, 2))}, {div(12, 7, p(0, 4), p(1, 1)), rows(at(0, 5), at(1, 1), at(-1, -3)), rows(at(0, 0), at(1, 0), at(-1, 3))},
		{div(7, 0, p(least, 1), p(most, 6)), rows(row(val(most, 4), val(least, 4)), row(val(least, -3), val(most, -10))), rows(row(val(most, 4), val(least, 3)))},
	} {
		other := func(a *arena.Arena) int {
			node := whole(a, c.of(a))
			return laid(a.Atom(api.Atom{Kind: api.Not, D: node.D, T: node.T}))
		}
		claims(t, []claim{c, {other, c.no, c.yes}})
	}
}

// modulo is what is left of a number, 0 to d - 1.
func modulo(k, d int) int { return (k%d + d) % d }

// All small atoms of two variables, by Go's own numbers.
func TestP171SmallAtoms(t *testing.T) {
	for c := -3; c <= 3; c++ {
		for e := -2; e <= 2; e++ {
			for k := -2; k <= 2; k++ {
				a := arena.New(nil)
				ids := layAll(a, of(xy(c, e, k), div(2, k, p(0, c), p(1, e)), div(3, k, p(0, c), p(1, e)), not(4, k, p(0, c), p(1, e)), not(5, k, p(0, c), p(1, e))))
				for i := range 99 {
					v, w := i%11-5, i/11-4
					sum := c*v + e*w + k
					for j, want := range []bool{sum > 0, modulo(sum, 2) == 0, modulo(sum, 3) == 0, modulo(sum, 4) != 0, modulo(sum, 5) != 0} {
						if is, e := ground.Eval(a, ids[j], at(v, w)); is != want || e != api.OK {
							t.Fatalf("of %s, %d and %d: %v, %v", tellNode(whole(a, ids[j])), v, w, is, e)
						}
					}
				}
			}
		}
	}
}

// plus is a number and a little more.
func plus(a api.Int, k int) api.Int { return zint.Add(a, n(k)) }

// Values, coefficients, constants and divisors of one limb and of many, each next to where the atom changes; values may
// have more limbs than any node's number.
func TestP171GreatNumbers(t *testing.T) {
	for l := 1; l <= api.MaxLimbs; l++ {
		k, more, w := widest(l), wide(l+1), wide(l)
		claims(t, []claim{
			{bigLess(opposite(k), p(0, 1)), rows(bigAt(more), bigAt(widest(l+1)), bigAt(wide(40))), rows(bigAt(k), bigAt(n(0)), bigAt(opposite(more)), bigAt(opposite(wide(40))))},
			{bigLess(opposite(k), p(0, -1)), rows(bigAt(opposite(more)), bigAt(opposite(wide(40)))), rows(bigAt(opposite(k)), bigAt(n(0)), bigAt(more), bigAt(wide(40)))},
			{less(0, big(0, w), p(1, 1)), rows(bigAt(n(1), plus(opposite(w), 1)), bigAt(n(-1), plus(w, 1)), bigAt(wide(3), plus(opposite(wide(l+2)), 1))), rows(bigAt(n(1), opposite(w)), bigAt(n(-1), w), bigAt(opposite(wide(3)), wide(l+2)))},
			// What k divides, 1 more and 1 less: wide is 1 more than a power of 2^32 less 1, and of so many limbs k divides that.
			{bigDiv(k, n(0), p(0, 1)), rows(bigAt(n(0)), bigAt(k), bigAt(opposite(k)), bigAt(widest(3*l)), bigAt(opposite(widest(5*l)))), rows(bigAt(more), bigAt(opposite(wide(3*l+1))), bigAt(plus(k, -1)), bigAt(n(2)))},
			{bigNot(k, n(0), p(0, 1)), rows(bigAt(more), bigAt(opposite(wide(3*l+1))), bigAt(plus(k, -1)), bigAt(n(2))), rows(bigAt(n(0)), bigAt(opposite(k)), bigAt(opposite(widest(5*l))))},
			{bigDiv(k, n(-1), p(0, 1)), rows(bigAt(more), bigAt(wide(3*l+1)), bigAt(n(1))), rows(bigAt(k), bigAt(n(-1)), bigAt(opposite(more)), bigAt(opposite(wide(3*l+1))))},
			// The great coefficient is -1 here, but for so many times k.
			{bigDiv(k, n(-7), big(0, plus(k, -1)), p(1, 3)), rows(bigAt(n(2), n(3)), bigAt(n(-4), n(1)), bigAt(plus(more, 1), plus(widest(4*l), 3))), rows(bigAt(n(2), n(4)), bigAt(n(-2), n(3)), bigAt(k, k), bigAt(more, n(3)))},
		})
	}
	claims(t, []claim{
		{xy(1, -1, 0), rows(bigAt(wide(40), widest(39)), bigAt(opposite(widest(39)), opposite(wide(40))), bigAt(wide(40), opposite(wide(40)))), rows(bigAt(widest(39), wide(40)), bigAt(wide(40), wide(40)), bigAt(opposite(wide(40)), widest(39)))},
		{div(2, 0, p(0, 1)), rows(bigAt(wide(40)), bigAt(opposite(wide(40)))), rows(bigAt(widest(40)), bigAt(opposite(widest(40))))},
		{bigNot(wide(8), n(1), p(0, 1)), rows(bigAt(wide(9)), bigAt(n(1)), bigAt(widest(6))), rows(bigAt(widest(7)), bigAt(widest(40)), bigAt(n(-1)))},
	})
}

// Numbers that don't stand as they should are taken for what they say.
func TestP171NumbersAsTheySay(t *testing.T) {
	raw := func(neg bool, limbs ...uint32) []api.Value { return bigAt(api.Int{Neg: neg, Mag: limbs}) }
	noughts := rows(raw(true), raw(true, 0), raw(false, 0, 0), raw(true, 0, 0, 0, 0, 0, 0, 0, 0, 0))
	fives := rows(raw(false, 5), raw(false, 5, 0), raw(false, 5, 0, 0, 0, 0, 0, 0, 0, 0, 0))
	below := rows(raw(true, 5), raw(true, 5, 0), raw(true, 5, 0, 0, 0))
	claims(t, []claim{
		{of: x(1, 1), yes: slices.Concat(noughts, fives), no: below}, {of: x(1, 0), yes: fives, no: slices.Concat(noughts, below)}, {of: x(-1, 0), yes: below, no: slices.Concat(noughts, fives)},
		{of: x(1, -4), yes: fives, no: noughts}, {of: x(1, -5), no: fives}, {of: x(-1, -4), yes: below}, {of: x(-1, -5), no: below},
		{of: div(5, 0, p(0, 1)), yes: slices.Concat(noughts, fives, below)}, {of: not(4, 0, p(0, 1)), yes: slices.Concat(fives, below), no: noughts}, {of: div(3, 1, p(0, 1)), yes: fives, no: slices.Concat(noughts, below)},
	})
}

// signs are values of v0, v1 and v2, each above 0 or below, by a number's bits.
func signs(bits int) []api.Value {
	sign := func(bit int) int { return bits>>bit&1*2 - 1 }
	return at(3*sign(0), sign(1), 7*sign(2))
}

// And and Or, nested in one another, under all that their atoms may be: also where numbers are not in the order of the
// text, where a node hangs below several others, and where a constant is a kid.
func TestP171Joined(t *testing.T) {
	a, b, c := x(1, 0), y(1, 0), z(1, 0)
	both, either := and(a, b), or(b, c)
	for _, l := range []struct {
		of   form
		want func(a, b, c bool) bool
	}{
		{and(a, b), func(a, b, c bool) bool { return a && b }}, {or(a, b), func(a, b, c bool) bool { return a || b }}, {and(a, b, c), func(a, b, c bool) bool { return a && b && c }}, {or(a, b, c), func(a, b, c bool) bool { return a || b || c }},
		{and(a, or(b, c)), func(a, b, c bool) bool { return a && (b || c) }}, {or(a, and(b, c)), func(a, b, c bool) bool { return a || b && c }}, {and(or(a, b), or(b, c), or(a, c)), func(a, b, c bool) bool { return (a || b) && (b || c) && (a || c) }},
		{or(and(a, x(-1, 1)), c), func(a, b, c bool) bool { return c }}, {and(or(a, x(-1, 1)), c), func(a, b, c bool) bool { return c }}, {and(and(a, b), c), func(a, b, c bool) bool { return a && b && c }}, {or(or(a, b), c), func(a, b, c bool) bool { return a || b || c }},
		{behind(of(c, b, a), and(a, or(b, and(c, or(a, b))))), func(a, b, c bool) bool { return a && (b || c) }}, {behind(of(or(b, c), a), or(and(a, or(b, c)), b)), func(a, b, c bool) bool { return a && (b || c) || b }},
		{or(and(both, c), and(both, either), and(either, a)), func(a, b, c bool) bool { return a && b || a && c }}, {and(or(both, either), or(both, c), either), func(a, b, c bool) bool { return b && a || c }},
		{and(a, always()), func(a, b, c bool) bool { return a }}, {and(a, never()), func(a, b, c bool) bool { return false }}, {or(a, never()), func(a, b, c bool) bool { return a }}, {or(a, always()), func(a, b, c bool) bool { return true }}, {or(never(), and(b, always())), func(a, b, c bool) bool { return b }},
		{and(never(), always()), func(a, b, c bool) bool { return false }}, {or(never(), always()), func(a, b, c bool) bool { return true }},
		// What stands beside it in the arena, or above it, is nothing to it.
		{behind(of(and(a, never()), or(b, always()), some(0, a), all(5, b)), and(a, b)), func(a, b, c bool) bool { return a && b }}, {behind(of(some(0, or(a, b)), and(or(a, b), never())), or(a, b)), func(a, b, c bool) bool { return a || b }},
	} {
		a := arena.New(nil)
		id := l.of(a)
		for bits := range 8 {
			want := l.want(bits&1 > 0, bits&2 > 0, bits&4 > 0)
			truth(t, a, id, signs(bits), want, api.OK)
		}
	}
}

// Of several values of a variable the first one counts, wherever it stands; values of variables that are not in the formula
// don't matter.
func TestP171TheFirstCounts(t *testing.T) {
	claims(t, []claim{
		{x(1, 0), rows(row(val(0, 1), val(0, -1)), row(val(0, 1), val(0, -1), val(0, -2)), row(val(1, -4), val(0, 1), val(1, -4), val(0, 0))), rows(row(val(0, -1), val(0, 1)), row(val(0, 0), val(0, 1), val(0, 2)), row(val(1, 4), val(0, -1), val(1, 4), val(0, 1)))},
		{xy(1, -1, 0), rows(row(val(1, 3), val(0, 4), val(1, 9), val(0, 0)), row(val(0, 4), val(0, 1), val(1, 3), val(1, 5))), rows(row(val(1, 9), val(0, 4), val(1, 3)), row(val(0, 0), val(1, 3), val(0, 4)))},
		{div(2, 0, p(0, 1)), rows(row(val(0, 2), val(0, 3)), row(bigVal(0, api.Int{Neg: true}), val(0, 1))), rows(row(val(0, 3), val(0, 2)), row(bigVal(0, widest(9)), val(0, 2)))},
		// Others, ahead, between and behind, next to those that are there.
		{x(1, 0), rows(row(val(1, -1), val(-1, -1), val(0, 1), val(most, -1), val(least, -1))), rows(row(val(least, 1), val(1, 1), val(0, -1), val(-1, 1), val(most, 1)))},
		{and(x(1, 0), z(1, 0)), rows(row(val(3, 0), val(2, 1), val(1, 0), val(0, 1), val(-1, 0))), rows(row(val(3, 1), val(2, 0), val(1, 1), val(0, 1), val(-1, 1)))},
		{less(0, p(least, 1), p(most, 1)), rows(row(val(least+1, -9), val(least, 1), val(most-1, -9), val(most, 0), val(0, -9))), rows(row(val(least+1, 9), val(least, 0), val(most-1, 9), val(most, 0)))},
	})
}

// Two atoms of one variable, and of others, are looked at with the values of all.
func TestP171SeveralAtoms(t *testing.T) {
	claims(t, []claim{
		{and(x(1, -2), x(-1, 6), not(2, 0, p(0, 1))), rows(at(3), at(5)), rows(at(1), at(4), at(2), at(6), at(7), at(-3))},
		{or(x(1, -6), x(-1, -6), div(5, 0, p(0, 1))), rows(at(7), at(-7), at(5), at(-5), at(0), at(10)), rows(at(6), at(-6), at(4), at(1))},
		{and(xy(1, -1, 0), less(0, p(1, 1), p(2, -1)), or(div(2, 0, p(0, 1)), div(3, 0, p(2, 1)))), rows(at(4, 3, 2), at(5, 2, 0), at(9, 4, -3)), rows(at(5, 4, 2), at(4, 4, 3), at(4, 3, 3))},
	})
}
