package periods_test

import (
	"slices"
	"strconv"
	"testing"

	"riddle/api"
	"riddle/periods"
	"riddle/zint"
)

// Has: at a cut and one below it, between two cuts that are next to one another, and far from all on both sides.
func TestP184Has(t *testing.T) {
	s := join(meet(upTo(-11), class(3, 0)), one(-5), meet(between(2, 8), class(2, 1)), meet(above(20), class(5, 1)))
	stands(t, "a set of pieces", s, 30, numbers(-10, -5, -4, 2, 9, 21))
	hasJust(t, "a set of pieces", s, func(k int) bool {
		return k < -10 && threes(k) || k == -5 || 2 <= k && k <= 8 && !evens(k) || k > 20 && modulo(k, 5) == 1
	})
	has(t, "a set of pieces", s, numbers(-12, -5, 3, 7, 21, 26), numbers(-10, -11, -9, -6, -4, 2, 8, 9, 16, 20, 22))
	// 2^32 leaves 1 by 3 and by 5.
	for limbs := 2; limbs <= 40; limbs++ {
		has(t, "far away", s, bigs(wide(limbs), plus(wide(limbs), 5), plus(wide(limbs), -5), opposite(widest(limbs)), plus(opposite(wide(limbs)), 1)), bigs(plus(wide(limbs), 1), widest(limbs), opposite(wide(limbs)), plus(opposite(wide(limbs)), 2)))
	}
	for k := -40; k <= 40; k++ {
		for _, other := range raws(n(k)) {
			if s.Has(other) != s.Has(n(k)) {
				t.Errorf("of %s another answer than of %d", tellInt(other), k)
			}
		}
	}
}

// At great cuts.
func TestP184HasGreat(t *testing.T) {
	for _, k := range greats() {
		s := made(periods.Above(plus(k, -1)).Meet(made(periods.Above(plus(k, 64)).Rest().Meet(classOf(t, n(64), k)))))
		stands(t, "two of a class", s, 64, bigs(k, plus(k, 65)))
		has(t, "two of a class", s, bigs(k, plus(k, 64)), bigs(plus(k, -64), plus(k, 128), plus(k, 1), plus(k, 63), plus(k, 65), plus(k, -1), plus(k, -4096), plus(k, 4096)))
		outside := s.Rest()
		has(t, "all others", outside, bigs(plus(k, -64), plus(k, 128), plus(k, 1)), bigs(k, plus(k, 64)))
	}
}

// Sets with the same numbers, whatever their periods and cuts are, in groups; no two of different groups are the same.
func sameGroups() [][]*periods.Set {
	all2 := join(class(2, 0), class(2, 1))
	return [][]*periods.Set{
		{none(), meet(none(), class(7, 1)), meet(above(3), upTo(3)), meet(class(2, 0), class(2, 1)), meet(one(4), class(2, 1)), meet(between(3, 5), class(10, 0)), meet(none(), class(4096, 5)), meet(none(), class(4095, 5)), meet(between(0, 4000), class(4096, 4095))},
		{every(), all2, join(class(3, 0), class(3, 1), class(3, 2)), join(above(3), upTo(3)), join(one(3).Rest(), class(4, 3)), join(every(), class(4096, 1)), join(every(), class(4093, 1)), join(one(4).Rest(), class(4091, 4))},
		{class(2, 0), join(class(4, 0), class(4, 2)), join(class(6, 0), class(6, 2), class(6, 4)), class(2, 1).Rest(), join(meet(above(9), class(2, 0)), meet(upTo(9), class(4, 1).Rest(), class(4, 3).Rest())), meet(join(class(2, 0), one(7)), one(7).Rest())},
		{class(2, 1), join(class(4, 1), class(4, 3))},
		// Cuts between which there is nothing may stand elsewhere.
		{meet(above(3), class(2, 0)), meet(above(2), class(2, 0)), meet(above(2), class(4, 1).Rest(), class(4, 3).Rest()), join(one(4), meet(above(4), class(2, 0))), join(one(4), meet(above(5), class(2, 0)))},
		{meet(above(4), class(2, 0)), meet(above(5), class(2, 0)), join(meet(above(7), class(2, 0)), one(6))},
		{meet(upTo(3), class(2, 0)), meet(upTo(2), class(2, 0))},
		{one(1), meet(between(0, 4), class(5, 1)), meet(between(-1, 5), class(7, 1)), meet(class(4096, 1), between(-4000, 4096)), meet(class(4093, 1), between(-4000, 4093))},
		{one(2), meet(between(1, 5), class(5, 2)), meet(between(-1, 5), class(7, 2))},
		{join(one(1), one(6)), meet(between(0, 6), class(5, 1))}, {between(3, 8), join(between(3, 5), between(6, 8)), join(meet(between(3, 8), class(2, 0)), meet(between(3, 8), class(2, 1)))}, {between(3, 9)}, {between(2, 8)}, {above(3), meet(above(3), all2), join(above(7), between(4, 7))}, {above(4)}, {upTo(3), meet(upTo(3), all2)}, {one(4).Rest()}, {class(4096, 1)}, {class(4096, 2)}, {class(4095, 1)}, {class(4096, 1).Rest()},
		{meet(every(), class(4093, 1)), join(class(4093, 1), one(4094))},
	}
}

func TestP184Same(t *testing.T) {
	groups := sameGroups()
	for i, first := range groups {
		for j, second := range groups {
			for k, s := range first {
				for l, o := range second {
					if s.Same(o) != (i == j) {
						t.Errorf("the set %d of %d and %d of %d: Same %v", k, i, l, j, s.Same(o))
					}
				}
			}
		}
		for k, s := range first {
			if s.Same(nil) {
				t.Errorf("the set %d of %d is the same as nil", k, i)
			}
		}
	}
}

// word has the numbers at which there is an a, where the letters are repeated without an end, their first one at lo: those
// from lo to hi alone, or, if these two are the same, all.
func word(letters string, lo, hi int) *periods.Set {
	d := len(letters)
	s := meet(none(), class(d, 0))
	for i, letter := range letters {
		if letter == 'a' {
			s = join(s, class(d, lo+i))
		}
	}
	if lo == hi {
		return s
	}
	return meet(s, between(lo, hi))
}

// Two rows that agree on as many numbers, one behind the other, as both periods are together less 2, and no further: what
// looks at fewer would take them for the same.
func TestP184SameForLong(t *testing.T) {
	for _, c := range []struct{ p, q string }{
		{"ab", "aba"}, {"aba", "abaab"}, {"aab", "aabaaba"}, {"abaab", "abaababa"}, {"aaaaaab", "aaaaaaba"}, {"abaababa", "abaababaabaab"}, {"abaababaabaab", "abaababaabaababaababa"}, {"abaababaabaababaababaabaababaabaab", "abaababaabaababaababa"},
	} {
		agree := len(c.p) + len(c.q) - 2
		for _, lo := range []int{0, -50, 33} {
			for i := range agree {
				if word(c.p, lo, lo).Has(n(lo+i)) != word(c.q, lo, lo).Has(n(lo+i)) {
					t.Fatalf("%s and %s differ at %d", c.p, c.q, i)
				}
			}
			if !word(c.p, lo, lo+agree-1).Same(word(c.q, lo, lo+agree-1)) || !word(c.q, lo, lo+agree-2).Same(word(c.p, lo, lo+agree-2)) {
				t.Errorf("%s and %s: not the same over %d", c.p, c.q, agree)
			}
			// On both sides of a cut, and all along.
			s, o := word(c.p, lo, lo), word(c.q, lo, lo)
			for _, cut := range []int{lo, lo + agree} {
				for _, side := range []*periods.Set{above(cut - 1), upTo(cut - 1)} {
					if meet(s, side).Same(meet(o, side)) || join(s, side).Same(join(o, side)) || meet(o, side).Same(meet(s, side)) {
						t.Errorf("%s and %s: the same beside %d", c.p, c.q, cut)
					}
				}
			}
			if s.Same(o) || o.Same(s) || word(c.p, lo, lo+agree).Same(word(c.q, lo, lo+agree)) || word(c.p, lo, lo+5000).Same(word(c.q, lo, lo+5000)) {
				t.Errorf("%s and %s: the same", c.p, c.q)
			}
		}
	}
}

// Long periods that have nothing in common, of which one number is not the same, near a cut or far from it.
func TestP184SameFar(t *testing.T) {
	const p, q = 4093, 4096
	s, o := join(every(), class(p, 0)), join(every(), class(q, 0))
	if s.Period() != p || o.Period() != q || !s.Same(o) {
		t.Fatal("everything is not everything")
	}
	for _, k := range []int{0, 1, -1, p, q, p + q, -p * q / 2, p*q - 1, 1 << 30} {
		dot := one(k).Rest()
		if meet(s, dot).Same(o) || !meet(s, dot).Same(meet(o, dot)) {
			t.Errorf("without %d", k)
		}
		if meet(s, class(p, k).Rest()).Same(o) || !meet(s, class(p, k).Rest(), between(k+1, k+p-1)).Same(between(k+1, k+p-1)) {
			t.Errorf("without what %d leaves", k)
		}
		if meet(s, class(p, k).Rest(), between(k+1, k+p)).Same(meet(o, between(k+1, k+p))) {
			t.Errorf("without what %d leaves, up to it", k)
		}
	}
	// The last remainder, just ahead of the first one again.
	if meet(s, class(p, p-1).Rest(), between(0, p-1)).Same(between(0, p-1)) || meet(s, class(p, p-1).Rest(), above(-1)).Same(meet(o, above(-1))) || meet(s, class(p, p-1).Rest(), upTo(-1)).Same(meet(o, upTo(-1))) {
		t.Error("without the last remainder")
	}
	great := wide(30)
	far := func(s *periods.Set) *periods.Set {
		return made(s.Meet(made(periods.Above(opposite(great)).Meet(periods.Above(great).Rest()))))
	}
	if !far(s).Same(far(o)) || far(s).Same(s) || far(meet(s, class(p, 7).Rest())).Same(far(o)) {
		t.Error("over a long stretch")
	}
}

// slowSame goes through all numbers from a common period below the first cut to one behind the last one.
func slowSame(s, o *periods.Set) bool {
	whole := s.Period() * o.Period()
	cuts := slices.Concat(s.Cuts(), o.Cuts(), numbers(0))
	slices.SortFunc(cuts, zint.Cmp)
	lo, _ := zint.Int64(cuts[0])
	hi, _ := zint.Int64(cuts[len(cuts)-1])
	for k := int(lo) - whole; k <= int(hi)+whole; k++ {
		if s.Has(n(k)) != o.Has(n(k)) {
			return false
		}
	}
	return true
}

// Drawn sets of small numbers and short periods, against going through all numbers.
func TestP184SameDrawn(t *testing.T) {
	d := &dice{state: 184}
	is, isNot, otherwise := 0, 0, 0
	// A small world, in which many sets have the same numbers.
	small := func() *periods.Set {
		p := 1 + d.roll(4)
		s := meet(none(), class(p, 0))
		for r := range p {
			if d.roll(2) == 0 {
				s = join(s, class(p, r))
			}
		}
		lo := d.roll(7) - 3
		switch stretch := between(lo, lo+d.roll(5)); d.roll(6) {
		case 0:
			return meet(s, stretch)
		case 1:
			return join(s, stretch)
		case 2:
			return meet(s, above(lo))
		case 3:
			return join(meet(s, stretch), one(d.roll(7)-3))
		}
		return s
	}
	for range 10 * drawn {
		s, o := small(), small()
		want := slowSame(s, o)
		if s.Same(o) != want || o.Same(s) != want {
			t.Fatalf("%s; %s: Same %v, %v", tellSet(s), tellSet(o), s.Same(o), o.Same(s))
		}
		switch {
		case !want:
			isNot++
		case s.Period() == o.Period() && tellInts(s.Cuts()) == tellInts(o.Cuts()):
			is++
		default:
			otherwise++
		}
	}
	if min(is, isNot, otherwise) < drawn/8 {
		t.Errorf("the same %d times, not %d times, told otherwise %d times", is, isNot, otherwise)
	}
}

// Cuts and Period of what was made in several ways.
func TestP184CutsAndPeriod(t *testing.T) {
	for i, c := range []struct {
		s      *periods.Set
		period int
		cuts   []api.Int
	}{
		{none(), 1, nil}, {every(), 1, nil}, {above(0), 1, numbers(1)}, {above(-1), 1, numbers(0)}, {class(9, 4), 9, nil}, {class(-9, 4), 9, nil}, {one(0), 1, numbers(0, 1)}, {join(one(-1), one(1)), 1, numbers(-1, 0, 1, 2)},
		// A row that has no number of its stretch is another one all the same.
		{meet(class(9, 4), one(0)), 9, numbers(0, 1)}, {meet(class(9, 0), one(0)), 9, numbers(0, 1)}, {meet(class(9, 0), above(0)), 9, numbers(1)},
		{made(periods.Above(wide(9)).Join(one(3))), 1, bigs(n(3), n(4), plus(wide(9), 1))}, {made(periods.Above(opposite(wide(9))).Meet(one(3).Rest())), 1, bigs(opposite(widest(8)), n(3), n(4))},
	} {
		stands(t, "set "+strconv.Itoa(i), c.s, c.period, c.cuts)
	}
}

// A nil set has nothing, and does nothing.
func TestR1NilSets(t *testing.T) {
	var s *periods.Set
	for _, k := range greats() {
		if s.Has(k) {
			t.Errorf("%s is in it", tellInt(k))
		}
	}
	if s.Rest() != nil || s.Cuts() != nil || s.Period() != 0 || s.Same(nil) || s.Same(none()) || s.Same(every()) || none().Same(nil) || every().Same(s) {
		t.Error("a nil set is something")
	}
	refusesBoth(t, s, nil, api.ErrArg)
	for _, o := range []*periods.Set{none(), every(), above(3), class(4096, 1), one(4)} {
		refusesBoth(t, s, o, api.ErrArg)
		refusesBoth(t, nil, o, api.ErrArg)
		if o.Same(s) || s.Same(o) {
			t.Error("a nil set is the same as another one")
		}
	}
}
