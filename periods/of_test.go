package periods_test

import (
	"strconv"
	"testing"

	"riddle/api"
	"riddle/arena"
	"riddle/periods"
	"riddle/zint"
)

// A claim is a formula of the variable 0 with the period and the cuts of its set, and what is in it.
type claim struct {
	of     form
	period int
	cuts   []int
	is     func(k int) bool
}

func claims(t *testing.T, l []claim) {
	t.Helper()
	for i, c := range l {
		a := arena.New(nil)
		what := "claim " + strconv.Itoa(i)
		s, e := setOf(t, a, c.of(a), 0)
		if e != api.OK {
			t.Errorf("%s: %v", what, e)
			continue
		}
		stands(t, what, s, c.period, numbers(c.cuts...))
		hasJust(t, what, s, c.is)
	}
}

func yes(int) bool { return true }

func no(int) bool { return false }

// The constants, whichever variable is asked for, and what is joined of them.
func TestP183Constants(t *testing.T) {
	claims(t, []claim{
		{never(), 1, nil, no}, {always(), 1, nil, yes}, {and(never(), always()), 1, nil, no}, {or(never(), always()), 1, nil, yes}, {and(or(never(), always()), always()), 1, nil, yes},
		// By their form these are constants.
		{less(1, p(0, 1), p(0, -1)), 1, nil, yes}, {div(4, 2, 1), 1, nil, no}, {not(4, 2, 1), 1, nil, yes}, {div(5, 10, 0), 1, nil, yes}, {div(1, 1, 0), 1, nil, yes}, {not(1, 1, 0), 1, nil, no},
	})
	a := arena.New(nil)
	for _, v := range []int{0, 1, -1, 7, least, most} {
		for id, want := range []*periods.Set{none(), every()} {
			s, e := setOf(t, a, id, v)
			if e != api.OK {
				t.Fatal(e)
			}
			alike(t, "a constant", s, want)
		}
	}
}

// A Less, with coefficients above and below 0, of 1 and of more: 0 < 2 v + 3 is v > -2, 0 < -3 v + 7 is v < 3.
func TestP183Less(t *testing.T) {
	claims(t, []claim{
		{x(1, 0), 1, []int{1}, func(k int) bool { return k > 0 }}, {x(1, -3), 1, []int{4}, func(k int) bool { return k > 3 }}, {x(1, 3), 1, []int{-2}, func(k int) bool { return k > -3 }}, {x(-1, 0), 1, []int{0}, func(k int) bool { return k < 0 }}, {x(-1, 3), 1, []int{3}, func(k int) bool { return k < 3 }}, {x(-1, -3), 1, []int{-3}, func(k int) bool { return k < -3 }},
		{x(2, 3), 1, []int{-1}, func(k int) bool { return k > -2 }}, {x(2, 4), 1, []int{-1}, func(k int) bool { return k > -2 }}, {x(2, -3), 1, []int{2}, func(k int) bool { return k > 1 }}, {x(2, -4), 1, []int{3}, func(k int) bool { return k > 2 }}, {x(-3, 7), 1, []int{3}, func(k int) bool { return k < 3 }}, {x(-3, 6), 1, []int{2}, func(k int) bool { return k < 2 }}, {x(-3, -7), 1, []int{-2}, func(k int) bool { return k < -2 }}, {x(-3, -6), 1, []int{-2}, func(k int) bool { return k < -2 }},
	})
	for c := -9; c <= 9; c++ {
		for k := -30; c != 0 && k <= 30; k++ {
			a := arena.New(nil)
			s, e := setOf(t, a, x(c, k)(a), 0)
			if e != api.OK || s.Period() != 1 || len(s.Cuts()) != 1 {
				t.Fatalf("0 < %d v + %d: %s, %v", c, k, tellSet(s), e)
			}
			hasJust(t, "0 < "+strconv.Itoa(c)+" v + "+strconv.Itoa(k), s, func(v int) bool { return 0 < c*v+k })
		}
	}
}

// A Div and a Not, whose coefficient and divisor have a common divisor or none: the period is the divisor of the form.
func TestP183Divisibilities(t *testing.T) {
	claims(t, []claim{
		{div(2, 1, 0), 2, nil, evens}, {not(2, 1, 0), 2, nil, func(k int) bool { return !evens(k) }}, {div(3, 1, 1), 3, nil, func(k int) bool { return modulo(k, 3) == 2 }}, {not(3, 1, 1), 3, nil, func(k int) bool { return modulo(k, 3) != 2 }}, {div(3, 2, 1), 3, nil, func(k int) bool { return modulo(k, 3) == 1 }}, {div(5, 3, 2), 5, nil, func(k int) bool { return modulo(k, 5) == 1 }}, {div(5, -3, 2), 5, nil, func(k int) bool { return modulo(k, 5) == 4 }},
		{div(4, 6, 2), 2, nil, func(k int) bool { return !evens(k) }}, {not(4, 6, 2), 2, nil, evens}, {div(6, 4, 2), 3, nil, func(k int) bool { return modulo(k, 3) == 1 }}, {div(-6, 4, 2), 3, nil, func(k int) bool { return modulo(k, 3) == 1 }}, {div(12, 9, 3), 4, nil, func(k int) bool { return modulo(k, 4) == 1 }}, {not(12, 9, 3), 4, nil, func(k int) bool { return modulo(k, 4) != 1 }},
		{div(64, 1, 1), 64, nil, func(k int) bool { return modulo(k, 64) == 63 }}, {div(65, 2, 1), 65, nil, func(k int) bool { return modulo(k, 65) == 32 }}, {not(128, 1, 0), 128, nil, func(k int) bool { return modulo(k, 128) != 0 }},
	})
	for d := 1; d <= 12; d++ {
		for c := -13; c <= 13; c++ {
			for k := -13; k <= 13; k++ {
				a := arena.New(nil)
				what := strconv.Itoa(d) + " divides " + strconv.Itoa(c) + " v + " + strconv.Itoa(k)
				s, e := setOf(t, a, div(d, c, k)(a), 0)
				o, e2 := setOf(t, a, not(d, c, k)(a), 0)
				if e != api.OK || e2 != api.OK || d%s.Period() != 0 || s.Period() != o.Period() || len(s.Cuts())+len(o.Cuts()) > 0 {
					t.Fatalf("%s: %s, %v; %s, %v", what, tellSet(s), e, tellSet(o), e2)
				}
				hasJust(t, what, s, func(v int) bool { return modulo(c*v+k, d) == 0 })
				hasJust(t, what+", not", o, func(v int) bool { return modulo(c*v+k, d) != 0 })
			}
		}
	}
}

// Divisors at the limit, and above it: ErrPeriod goes by the divisor of the form.
func TestP183LongDivisors(t *testing.T) {
	for kind, f := range []func(d, c, k int) form{div, not} {
		a := arena.New(nil)
		for _, l := range [][4]int{{4096, 1, 0, 4096}, {4096, 3, 5, 4096}, {4095, 2, 1, 4095}, {4096, -1, 9, 4096}, {8192, 2, 4, 4096}, {-4096, 1, 1, 4096}, {40960, 10, 30, 4096}, {5000, 5, 0, 1000}} {
			s, e := setOf(t, a, f(l[0], l[1], l[2])(a), 0)
			if e != api.OK {
				t.Fatalf("%v: %v", l, e)
			}
			stands(t, "a long period", s, l[3], nil)
			for k := -4096; k < 4096; k++ {
				if divides := modulo(l[1]*k+l[2], max(l[0], -l[0])) == 0; s.Has(n(k)) != (divides == (kind == 0)) {
					t.Fatalf("%v: of %d %v", l, k, s.Has(n(k)))
				}
			}
		}
		for _, l := range [][3]int{{4097, 1, 0}, {4098, 1, 4}, {5000, 1, 0}, {8192, 3, 5}, {1 << 30, 1, 0}, {-4097, 1, 0}, {8194, 2, 0}} {
			refuses(t, a, f(l[0], l[1], l[2])(a), 0, api.ErrPeriod)
		}
	}
	a := arena.New(nil)
	for limbs := 2; limbs <= 8; limbs++ {
		for _, d := range bigs(wide(limbs), widest(limbs), plus(wide(limbs), 1), plus(wide(limbs), 5)) {
			refuses(t, a, bigDiv(d, n(1), n(0))(a), 0, api.ErrPeriod)
			refuses(t, a, bigNot(d, n(1), n(3))(a), 0, api.ErrPeriod)
		}
		// With the coefficient a divisor is left that may be.
		s, e := setOf(t, a, bigDiv(widest(limbs), quotient(widest(limbs), 3), n(0))(a), 0)
		if e != api.OK {
			t.Fatal(e)
		}
		alike(t, "what is left", s, class(3, 0))
	}
}

// quotient is a number divided by a small one that divides it.
func quotient(k api.Int, d uint32) api.Int {
	l := make([]uint32, len(k.Mag))
	left := uint64(0)
	for i := len(l) - 1; i >= 0; i-- {
		word := left<<32 + uint64(k.Mag[i])
		l[i], left = uint32(word/uint64(d)), word%uint64(d)
	}
	return api.Int{Mag: l}
}

// And and Or with two and with many kids, nested in one another, also where a node hangs below several others, and where
// numbers are not in the order of the text.
func TestP183Joined(t *testing.T) {
	low, high, even, three := x(1, -3), x(-1, 20), div(2, 1, 0), div(3, 1, 0)
	inside, both := and(low, high), and(even, three)
	in := func(k int) bool { return 3 < k && k < 20 }
	claims(t, []claim{
		{and(low, even), 2, []int{4}, func(k int) bool { return k > 3 && evens(k) }}, {or(low, even), 2, []int{4}, func(k int) bool { return k > 3 || evens(k) }}, {and(low, high), 1, []int{4, 20}, in}, {or(low, high), 1, nil, yes}, {and(low, x(-1, 3)), 1, nil, no}, {or(low, x(-1, 4)), 1, nil, yes}, {or(low, x(-1, 3)), 1, []int{3, 4}, func(k int) bool { return k != 3 }},
		{and(low, high, even, three), 6, []int{4, 20}, func(k int) bool { return in(k) && evens(k) && threes(k) }}, {or(and(low, high), even, three), 6, []int{4, 20}, func(k int) bool { return in(k) || evens(k) || threes(k) }}, {and(or(even, three), or(low, even)), 6, []int{4}, func(k int) bool { return evens(k) || k > 3 && threes(k) }}, {or(and(low, even), and(high, three)), 6, []int{4, 20}, func(k int) bool { return k > 3 && evens(k) || k < 20 && threes(k) }},
		{behind(of(three, high, even, low), and(low, or(high, and(even, three)))), 6, []int{4, 20}, func(k int) bool { return k > 3 && (k < 20 || modulo(k, 6) == 0) }}, {or(and(inside, both), and(inside, not(2, 1, 0)), and(both, x(1, -30))), 6, []int{4, 20, 31}, func(k int) bool { return in(k) && (modulo(k, 6) == 0 || !evens(k)) || modulo(k, 6) == 0 && k > 30 }},
		{and(even, never()), 2, nil, no}, {or(even, always()), 2, nil, yes}, {or(low, always()), 1, nil, yes}, {and(low, always()), 1, []int{4}, func(k int) bool { return k > 3 }}, {or(and(low, never()), three), 3, nil, threes}, {and(even, not(2, 1, 0)), 2, nil, no}, {or(even, not(2, 1, 0)), 2, nil, yes},
		// What stands beside it in the arena, or above it, is nothing to it: quantifiers, other variables, long periods.
		{behind(of(some(0, low), less(0, p(1, 1)), div(5000, 1, 0), and(div(64, 1, 0), div(81, 1, 0))), and(low, even)), 2, []int{4}, func(k int) bool { return k > 3 && evens(k) }},
	})
	const many = 40
	var dots, gaps, classes []form
	var cuts []int
	for i := range many {
		k := 4*i - 2*many
		dots, gaps = append(dots, and(x(1, -k), x(-1, k+2))), append(gaps, or(x(-1, k+1), x(1, -k-1)))
		classes, cuts = append(classes, div(many, 1, -i*i)), append(cuts, k+1, k+2)
	}
	inRange := func(k int) bool { return -2*many < k && k < 2*many && modulo(k, 4) == 1 }
	squares := map[int]int{}
	for i := range many {
		squares[i*i%many]++
	}
	claims(t, []claim{
		{or(dots...), 1, cuts, inRange}, {and(gaps...), 1, cuts, func(k int) bool { return !inRange(k) }}, {or(classes...), many, nil, func(k int) bool { return squares[modulo(k, many)] > 0 }}, {and(classes...), many, nil, no}, {or(and(dots...), and(or(dots...), or(classes...))), many, cuts, func(k int) bool { return inRange(k) && squares[modulo(k, many)] > 0 }},
	})
}

// Any variable may be asked for; others may not be there.
func TestP183AnyVariable(t *testing.T) {
	for _, v := range []int{0, 1, -1, 5, least, most, least + 1} {
		a := arena.New(nil)
		id := and(less(-3, p(v, 1)), atomOf(api.Div, n(2), n(0), []api.Part{p(v, 1)}))(a)
		s, e := setOf(t, a, id, v)
		if e != api.OK {
			t.Fatal(e)
		}
		alike(t, "v"+strconv.Itoa(v), s, meet(above(3), class(2, 0)))
		for _, other := range []int{0, 1, -1, 5, least, most} {
			if other != v {
				refuses(t, a, id, other, api.ErrFree)
			}
		}
	}
}

// Numbers of many limbs.
func TestP183GreatNumbers(t *testing.T) {
	for limbs := 1; limbs <= 8; limbs++ {
		k := plus(widest(limbs), -1)
		a := arena.New(nil)
		up, e := setOf(t, a, bigLess(opposite(k), p(0, 1))(a), 0)
		down, e2 := setOf(t, a, bigLess(opposite(k), p(0, -1))(a), 0)
		if e != api.OK || e2 != api.OK {
			t.Fatal(e, e2)
		}
		stands(t, "above", up, 1, bigs(plus(k, 1)))
		has(t, "above", up, bigs(plus(k, 1), wide(40)), bigs(k, n(0), opposite(wide(40))))
		stands(t, "below", down, 1, bigs(opposite(k)))
		has(t, "below", down, bigs(plus(opposite(k), -1), opposite(wide(40))), bigs(opposite(k), n(0), wide(40)))
		// A great coefficient: of -k v - 1 and of k v - 1 the form is with 1 and -1.
		up, e = setOf(t, a, bigLess(n(-1), big(0, k))(a), 0)
		down, e2 = setOf(t, a, bigLess(n(-1), big(0, opposite(k)))(a), 0)
		if e != api.OK || e2 != api.OK {
			t.Fatal(e, e2)
		}
		alike(t, "0 < k v - 1", up, above(0))
		alike(t, "0 < -k v - 1", down, upTo(-1))
		// By 7 the constant is taken, and so is the coefficient.
		s, e := setOf(t, a, bigDiv(n(7), plus(zint.Mul(k, n(7)), 1), zint.Mul(k, n(7)))(a), 0)
		if e != api.OK {
			t.Fatal(e)
		}
		alike(t, "by 7", s, class(7, 0))
	}
}

// Two nodes whose periods together are too long: ErrPeriod, wherever they stand, and whatever the formula says else.
func TestP183Periods(t *testing.T) {
	a, b, c := div(64, 1, 1), div(81, 1, 1), div(17, 1, 0)
	for _, f := range of(and(a, b), or(a, b), and(a, b, never()), or(a, b, always()), and(never(), or(a, b)), or(always(), and(b, a)), and(x(1, 0), a, x(-1, 0), b), or(and(a, x(1, 0)), and(b, x(-1, 0))), and(or(a, c), b), and(a, not(64, 1, 2), or(c, not(241, 1, 0))), or(and(a, x(1, 9)), b, div(4097, 1, 0)), and(div(4097, 1, 0), div(5000, 1, 0)), or(never(), and(x(1, 0), div(4097, 1, 3)))) {
		ar := arena.New(nil)
		refuses(t, ar, f(ar), 0, api.ErrPeriod)
	}
	for _, f := range of(and(a, div(63, 1, 0)), and(a, c), or(a, div(4096, 1, 0), not(2048, 1, 1)), and(div(63, 1, 0), or(div(65, 1, 0), not(45, 1, 1)))) {
		ar := arena.New(nil)
		if _, e := setOf(t, ar, f(ar), 0); e != api.OK {
			t.Error(e)
		}
	}
}
