package periods_test

import (
	"strconv"
	"testing"

	"riddle/api"
	"riddle/periods"
)

// refusesBoth fails unless Meet and Join of two sets, in either order, answer that error, and no set.
func refusesBoth(t *testing.T, s, o *periods.Set, want api.Errno) {
	t.Helper()
	for _, call := range []func(s, o *periods.Set) (*periods.Set, api.Errno){(*periods.Set).Meet, (*periods.Set).Join} {
		if got, e := call(s, o); got != nil || e != want {
			t.Errorf("%s, %v, want %v", short(tellSet(got)), e, want)
		}
		if got, e := call(o, s); got != nil || e != want {
			t.Errorf("turned round: %s, %v, want %v", short(tellSet(got)), e, want)
		}
	}
}

// A meeting is two sets with what comes of Meet and Join: the periods are the same, the cuts may differ.
type meeting struct {
	s, o             *periods.Set
	period           int
	met, joined      []int
	inMeet, inJoined func(k int) bool
}

// evens and threes are what a number leaves nothing by.
func evens(k int) bool { return modulo(k, 2) == 0 }

func threes(k int) bool { return modulo(k, 3) == 0 }

// By hand: cuts of one set, of both, in common, and such as go.
func TestP182ByHand(t *testing.T) {
	yes, no := func(int) bool { return true }, func(int) bool { return false }
	for i, m := range []meeting{
		{above(3), above(7), 1, []int{8}, []int{4}, func(k int) bool { return k > 7 }, func(k int) bool { return k > 3 }},
		{above(3), upTo(7), 1, []int{4, 8}, nil, func(k int) bool { return k > 3 && k <= 7 }, yes},
		{above(7), upTo(3), 1, nil, []int{4, 8}, no, func(k int) bool { return k > 7 || k <= 3 }},
		{above(3), upTo(3), 1, nil, nil, no, yes},
		{above(3), above(3), 1, []int{4}, []int{4}, func(k int) bool { return k > 3 }, func(k int) bool { return k > 3 }},
		{between(0, 9), between(5, 20), 1, []int{5, 10}, []int{0, 21}, func(k int) bool { return 5 <= k && k <= 9 }, func(k int) bool { return 0 <= k && k <= 20 }},
		// What ends where the next begins: the cut in common goes.
		{between(0, 9), between(10, 20), 1, nil, []int{0, 21}, no, func(k int) bool { return 0 <= k && k <= 20 }},
		{between(0, 9), between(11, 20), 1, nil, []int{0, 10, 11, 21}, no, func(k int) bool { return 0 <= k && k <= 20 && k != 10 }},
		{join(one(-5), one(5)), join(one(5), one(9)), 1, []int{5, 6}, []int{-5, -4, 5, 6, 9, 10}, func(k int) bool { return k == 5 }, func(k int) bool { return k == -5 || k == 5 || k == 9 }},
		{above(3), class(2, 0), 2, []int{4}, []int{4}, func(k int) bool { return k > 3 && evens(k) }, func(k int) bool { return k > 3 || evens(k) }},
		// The cut stands where the rows change, though the numbers change elsewhere.
		{above(4), class(2, 0), 2, []int{5}, []int{5}, func(k int) bool { return k > 5 && evens(k) }, func(k int) bool { return k > 4 || evens(k) }},
		{class(2, 0), class(3, 0), 6, nil, nil, func(k int) bool { return modulo(k, 6) == 0 }, func(k int) bool { return evens(k) || threes(k) }},
		{class(2, 0), class(2, 1), 2, nil, nil, no, yes},
		{class(4, 1), class(6, 3), 12, nil, nil, func(k int) bool { return modulo(k, 12) == 9 }, func(k int) bool { return modulo(k, 4) == 1 || modulo(k, 6) == 3 }},
		{class(4, 1), class(6, 2), 12, nil, nil, no, func(k int) bool { return modulo(k, 4) == 1 || modulo(k, 6) == 2 }},
		{none(), class(5, 2), 5, nil, nil, no, func(k int) bool { return modulo(k, 5) == 2 }},
		{every(), class(5, 2), 5, nil, nil, func(k int) bool { return modulo(k, 5) == 2 }, yes},
		{none(), every(), 1, nil, nil, no, yes}, {none(), none(), 1, nil, nil, no, no}, {every(), every(), 1, nil, nil, yes, yes},
		{none(), above(3), 1, nil, []int{4}, no, func(k int) bool { return k > 3 }},
		{every(), above(3), 1, []int{4}, nil, func(k int) bool { return k > 3 }, yes},
		// Below the cut the evens, above it the threes: what is in both rows is the same there, so that of Meet with the
		// sixes no cut is left.
		{join(meet(upTo(9), class(2, 0)), meet(above(9), class(3, 0))), class(6, 0), 6, nil, []int{10}, func(k int) bool { return modulo(k, 6) == 0 }, func(k int) bool { return k <= 9 && evens(k) || k > 9 && threes(k) }},
		{meet(above(0), class(2, 1)), meet(above(0), class(2, 0)), 2, nil, []int{1}, no, func(k int) bool { return k > 0 }},
		{meet(above(0), class(2, 1)), meet(above(1), class(2, 0)), 2, nil, []int{1, 2}, no, func(k int) bool { return k > 0 }},
	} {
		what := "row " + strconv.Itoa(i)
		for _, turned := range []bool{false, true} {
			s, o := m.s, m.o
			if turned {
				s, o = o, s
			}
			stands(t, what+", Meet", meet(s, o), m.period, numbers(m.met...))
			stands(t, what+", Join", join(s, o), m.period, numbers(m.joined...))
			hasJust(t, what+", Meet", meet(s, o), m.inMeet)
			hasJust(t, what+", Join", join(s, o), m.inJoined)
		}
	}
}

// Rest has the same period and cuts.
func TestP182Rest(t *testing.T) {
	for i, s := range []*periods.Set{none(), every(), above(3), upTo(-3), class(4, 1), class(64, 7), class(65, 64), class(4096, 9), between(3, 3), join(one(-4), one(4), meet(above(10), class(3, 1))), meet(above(4), class(2, 0)), meet(none(), class(7, 0))} {
		what := "set " + strconv.Itoa(i)
		rest := s.Rest()
		stands(t, what, rest, s.Period(), s.Cuts())
		hasJust(t, what, rest, func(k int) bool { return !s.Has(n(k)) })
		alike(t, what+", twice", rest.Rest(), s)
		if rest == s || rest.Same(s) || rest.Rest() == s {
			t.Errorf("%s: the Rest is the set", what)
		}
	}
}

// A set with itself is the set, with its own Rest nothing and everything: of its own period, without cuts.
func TestP182WithItself(t *testing.T) {
	for i, s := range []*periods.Set{none(), every(), above(3), class(4, 1), class(4096, 9), between(3, 3), join(one(-4), one(4), meet(above(10), class(3, 1))), meet(above(4), class(2, 0)), join(class(64, 1), above(0)), made(periods.Above(widest(9)).Meet(class(5, 1)))} {
		what := "set " + strconv.Itoa(i)
		alike(t, what+" Meet itself", meet(s, s), s)
		alike(t, what+" Join itself", join(s, s), s)
		nothing, everything := meet(s, s.Rest()), join(s, s.Rest())
		stands(t, what+" Meet its Rest", nothing, s.Period(), nil)
		stands(t, what+" Join its Rest", everything, s.Period(), nil)
		hasJust(t, what+" Meet its Rest", nothing, func(int) bool { return false })
		hasJust(t, what+" Join its Rest", everything, func(int) bool { return true })
		if !nothing.Same(none()) || !everything.Same(every()) {
			t.Errorf("%s: not the same as None and its Rest", what)
		}
	}
}

// The period is the least common multiple, also where a smaller one would do, and stays so whatever comes of it.
func TestP182ThePeriodStays(t *testing.T) {
	odd := class(2, 1)
	for i, c := range []struct {
		s      *periods.Set
		period int
		like   *periods.Set
	}{
		{join(class(2, 0), odd), 2, every()}, {meet(class(2, 0), odd), 2, none()}, {join(class(4, 0), class(4, 2)), 4, class(2, 0)}, {join(class(6, 0), class(6, 2), class(6, 4)), 6, class(2, 0)}, {meet(class(2, 1), class(4, 1)), 4, class(4, 1)},
		{join(class(2, 1), class(4, 1)), 4, odd}, {meet(none(), class(4096, 5)), 4096, none()}, {join(every(), class(4096, 5)), 4096, every()}, {meet(class(64, 1), class(63, 2), none()), 4032, none()}, {meet(class(3, 1), class(5, 1), class(7, 1)), 105, class(105, 1)},
		{meet(join(class(2, 0), odd), above(3)), 2, above(3)}, {join(meet(none(), class(10, 0)), one(3)), 10, one(3)}, {meet(class(10, 3), between(0, 9)), 10, one(3)}, {join(class(1, 0), none()), 1, every()}, {meet(class(1, 0), class(9, 9)), 9, class(9, 0)},
		{meet(none(), class(10, 0)).Rest(), 10, every()}, {meet(class(9, 3), class(9, 3)), 9, class(9, 3)},
	} {
		what := "row " + strconv.Itoa(i)
		if c.s.Period() != c.period || !c.s.Same(c.like) || !c.like.Same(c.s) {
			t.Errorf("%s: %s, want period %d and the same as %s", what, short(tellSet(c.s)), c.period, short(tellSet(c.like)))
		}
	}
}

// Least common multiples at MaxPeriod, and just above it: 4096 is 2^12, 4095 is 63 times 65, 4097 is 17 times 241, 4098 is
// 6 times 683, 4100 is 4 times 1025.
func TestP182TheLongestPeriod(t *testing.T) {
	for _, c := range []struct{ p, q, period int }{
		{4096, 1, 4096}, {4096, 2, 4096}, {4096, 1024, 4096}, {4096, 4096, 4096}, {63, 65, 4095}, {4095, 63, 4095}, {45, 91, 4095}, {64, 63, 4032}, {2, 2047, 4094}, {1, 1, 1}, {31, 132, 4092}, {12, 18, 36}, {1365, 4095, 4095},
	} {
		for _, s := range []*periods.Set{class(c.p, 1), join(class(c.p, 1), one(3)), class(c.p, 1).Rest()} {
			o := class(c.q, 1)
			both, either := meet(s, o), join(o, s)
			if both.Period() != c.period || either.Period() != c.period {
				t.Errorf("of %d and %d: %d, %d", c.p, c.q, both.Period(), either.Period())
			}
			for _, k := range probes(c.period, nil) {
				if both.Has(k) != (s.Has(k) && o.Has(k)) || either.Has(k) != (s.Has(k) || o.Has(k)) {
					t.Errorf("of %d and %d: of %s %v, %v", c.p, c.q, tellInt(k), both.Has(k), either.Has(k))
				}
			}
		}
	}
	for _, c := range []struct{ p, q int }{{17, 241}, {6, 683}, {4, 1025}, {64, 65}, {64, 81}, {4096, 3}, {4096, 4095}, {4095, 2}, {2049, 2}, {3, 1367}, {4093, 4091}, {4096, 4093}} {
		refusesBoth(t, class(c.p, 1), class(c.q, 1), api.ErrPeriod)
		// Whatever the numbers are, and the cuts.
		refusesBoth(t, meet(none(), class(c.p, 1)), class(c.q, 0), api.ErrPeriod)
		refusesBoth(t, join(every(), class(c.p, 1)), meet(one(3), class(c.q, 0)), api.ErrPeriod)
		refusesBoth(t, class(c.p, 1).Rest(), class(c.q, 0).Rest(), api.ErrPeriod)
	}
}

// Sets with very many cuts: pieces of the same length, side by side and apart; between them long periods.
func TestP182ManyCuts(t *testing.T) {
	const many = 60
	dots, odds := none(), none()
	var cuts []int
	for i := range many {
		k := 3 * (i - many/2)
		dots = join(one(k), dots)
		odds = join(odds, meet(between(k, k+1), class(64, i)))
		cuts = append(cuts, k, k+1)
	}
	inRange := func(k int) bool { return -90 <= k && k < 90 }
	stands(t, "dots", dots, 1, numbers(cuts...))
	hasJust(t, "dots", dots, func(k int) bool { return inRange(k) && threes(k) })
	// Between -91 and 90 there is nothing but numbers that leave nothing by 3.
	stands(t, "dots and the others", join(dots, class(3, 1), class(3, 2)), 3, numbers(cuts...))
	filled := join(dots, meet(class(3, 0).Rest(), between(-90, 89)))
	hasJust(t, "filled dots", filled, inRange)
	if !filled.Same(between(-90, 89)) || filled.Period() != 3 {
		t.Error("filled dots are another set")
	}
	hasJust(t, "odds", odds, func(k int) bool {
		i := (k+90)/3 - modulo(k, 3)/3
		return inRange(k) && modulo(k, 3) != 2 && modulo(k, 64) == modulo(i, 64)
	})
	for i := range many {
		dots = meet(dots, one(3*(i-many/2)).Rest())
		stands(t, "fewer dots", dots, 1, numbers(cuts[2*i+2:]...))
	}
	if !dots.Same(none()) {
		t.Error("dots are left")
	}
}

// Great cuts, of many limbs, next to one another and far apart.
func TestP182GreatCuts(t *testing.T) {
	for limbs := 1; limbs <= 12; limbs += 3 {
		k, far := widest(limbs), wide(limbs+5)
		s := made(periods.Above(opposite(far)).Meet(periods.Above(k).Rest()))
		stands(t, "a long stretch", s, 1, bigs(plus(opposite(far), 1), plus(k, 1)))
		has(t, "a long stretch", s, bigs(k, n(0), plus(opposite(far), 1)), bigs(plus(k, 1), opposite(far), far, opposite(wide(30)), wide(30)))
		dot := made(periods.Above(plus(k, -1)).Meet(periods.Above(k).Rest()))
		stands(t, "a dot", dot, 1, bigs(k, plus(k, 1)))
		less := made(s.Meet(dot.Rest()))
		stands(t, "without its last one", less, 1, bigs(plus(opposite(far), 1), k))
		more := made(less.Join(made(dot.Join(made(periods.Class(n(2), k))))))
		stands(t, "with all of a class", more, 2, bigs(plus(opposite(far), 1), plus(k, 1)))
		has(t, "with all of a class", more, bigs(k, plus(k, 2), plus(k, -1), n(0), n(1), plus(opposite(far), -1)), bigs(plus(k, 1), plus(opposite(far), -2), opposite(far)))
	}
}
