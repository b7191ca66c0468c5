package census_test

import (
	"strconv"
	"testing"

	"riddle/api"
	"riddle/census"
	"riddle/periods"
	"riddle/zint"
)

// near are sets whose cuts lie between -25 and 25; most are small enough to be gone through by eye. Some have cuts that are
// nearer to one another than the period, some a stretch in which no number of its row lies.
func near() []*periods.Set {
	l := []*periods.Set{
		none(), every(), above(3), upTo(-3), above(-1), upTo(0), class(2, 0), class(3, 1), class(7, 5), class(4096, 9), class(4096, 4095), class(64, 63),
		one(0), one(-5), between(-4, 9), between(-4, 9).Rest(), one(3).Rest(),
		meet(above(3), class(4, 1)), meet(upTo(3), class(4, 1)), meet(above(4), class(2, 0)), join(upTo(-7), above(8)), join(meet(upTo(-7), class(5, 2)), meet(above(8), class(3, 0))),
		join(one(-12), one(-3), one(4), between(6, 7), one(20)), join(one(-12), one(-3), one(4), between(6, 7), one(20)).Rest(),
		// The row between the cuts has a number, but none lies there.
		meet(between(1, 3), class(10, 5)), join(meet(between(1, 3), class(10, 5)), above(12)), join(meet(between(1, 3), class(10, 5)), upTo(-12)), join(meet(between(-9, -3), class(64, 0)), meet(between(1, 9), class(64, 5))),
		// Cuts that are nearer to one another than the period.
		join(meet(between(-20, -10), class(16, 0)), meet(between(-9, 0), class(16, 13)), meet(between(1, 12), class(16, 4)), meet(above(12), class(16, 7))),
		meet(join(class(30, 7), class(30, 20)), join(between(-11, -9), between(6, 8), between(19, 21))),
		// Cuts that are farther from one another.
		join(meet(upTo(-22), class(3, 0)), meet(between(-21, 1), class(3, 1)), meet(between(2, 25), class(3, 2)), meet(above(25), class(3, 0))),
		by(64, between(-4, 9)), by(4096, between(-4, 9)), by(4096, above(2)), by(12, none()), by(4096, every()), by(4096, none()),
		// Long rows, and few numbers.
		meet(class(4096, 3), above(2)), meet(class(4096, 3), upTo(3)), meet(class(4095, 4090), upTo(-6)), meet(class(4095, 4090), upTo(-5)),
	}
	// Dots with one number between them.
	dots := none()
	for k := -24; k < 25; k += 2 {
		dots = join(dots, one(k))
	}
	return append(l, dots, dots.Rest(), by(25, dots))
}

// From each number to each other one, below the cuts, at them, between them and above them.
func TestP191CountNear(t *testing.T) {
	const far = 34
	for i, s := range near() {
		what := "set " + strconv.Itoa(i)
		for lo := -far; lo <= far; lo++ {
			count := 0
			if got, e := census.Count(s, n(lo), n(lo-1)); e != api.OK || tellInt(got) != "" {
				t.Fatalf("%s: %s, %v where hi is below lo", what, tellInt(got), e)
			}
			for hi := lo; hi <= far; hi++ {
				if s.Has(n(hi)) {
					count++
				}
				if got, e := census.Count(s, n(lo), n(hi)); e != api.OK || tellInt(got) != tellInt(n(count)) {
					t.Fatalf("%s: Count from %d to %d is %s, %v, want %d, in %s", what, lo, hi, tellInt(got), e, count, short(tellSet(s)))
				}
			}
		}
	}
}

// hi below lo, by one and by very much, in whatever set.
func TestP191HiBelowLo(t *testing.T) {
	for i, s := range near() {
		what := "set " + strconv.Itoa(i)
		for _, c := range [][2]api.Int{{n(1), n(0)}, {n(0), n(-1)}, {n(5), n(-5)}, {wide(3), opposite(wide(3))}, {n(0), opposite(wide(9))}, {wide(9), n(0)}, {wide(9), widest(8)}, {opposite(widest(8)), opposite(wide(9))}, {n(30), n(-30)}} {
			counts(t, what, s, c[0], c[1], n(0))
			lists(t, what, s, c[0], c[1], nil)
		}
	}
}

// Far and very far: sets of which it is plain how many they have.
func TestP191CountFar(t *testing.T) {
	for _, far := range bigs(n(6000), n(1<<30), wide(2), widest(2), wide(3), plus(wide(4), 12345), widest(9), ten(30), ten(300)) {
		low := opposite(far)
		counts(t, "none", none(), low, far, n(0))
		counts(t, "every", every(), low, far, plus(times(far, 2), 1))
		counts(t, "every", every(), far, far, n(1))
		counts(t, "above", above(3), low, far, plus(far, -3))
		counts(t, "above a far one", periods.Above(far), low, plus(far, 7), n(7))
		counts(t, "up to a far one", periods.Above(low).Rest(), plus(low, -6), far, n(7))
		counts(t, "all but one", one(5).Rest(), low, far, times(far, 2))
		counts(t, "all between", between(-50, 50), low, far, n(101))
		counts(t, "all but those between", between(-50, 50).Rest(), low, far, plus(times(far, 2), -100))
		counts(t, "few between far cuts", meet(span(low, far), class(4096, 9), between(0, 5000)), low, far, n(2))
		for _, p := range []int{1, 2, 3, 64, 4095, 4096} {
			end := plus(times(far, p), -1)
			counts(t, "of period "+strconv.Itoa(p), class(p, 0), n(0), end, far)
			counts(t, "of period "+strconv.Itoa(p)+", both sides", class(p, p-1), times(low, p), end, times(far, 2))
			counts(t, "of period "+strconv.Itoa(p)+", the others", class(p, 0).Rest(), n(0), end, times(far, p-1))
		}
	}
}

// Distances that are just a multiple of the period, one less and one more, from each remainder, below and above 0.
func TestP191WholePeriods(t *testing.T) {
	for _, p := range []int{1, 2, 3, 7, 64, 1000, 4096} {
		for _, periodsMany := range bigs(n(0), n(1), n(2), n(10), wide(2), ten(40)) {
			for _, r := range []int{0, 1, p / 2, p - 1} {
				for _, shift := range bigs(n(0), wide(3), opposite(wide(3))) {
					lo := zint.Add(n(r), times(shift, p))
					hi := zint.Add(lo, times(periodsMany, p))
					s := class(p, r)
					counts(t, "from it to it", s, lo, hi, plus(periodsMany, 1))
					counts(t, "one less at the end", s, lo, plus(hi, -1), periodsMany)
					counts(t, "one more at the beginning", s, plus(lo, -1), hi, plus(periodsMany, 1+bit(p == 1)))
					counts(t, "one more at the end", s, lo, plus(hi, 1), plus(periodsMany, 1+bit(p == 1)))
					counts(t, "one off at both", s, plus(lo, -1), plus(hi, -1), plus(periodsMany, bit(p == 1)))
					counts(t, "between two of it", s.Rest(), lo, hi, times(periodsMany, p-1))
				}
			}
		}
	}
}

func bit(is bool) int {
	if is {
		return 1
	}
	return 0
}

// Cuts that are much farther from one another than the period, and much nearer, in one set, with the ends at each of them.
func TestP191FarAndNearCuts(t *testing.T) {
	far, half, tenth := ten(50), times(ten(49), 5), ten(49)
	low := opposite(far)
	// Up to -10^50 the 10ths, then the evens up to 0, then 3 dots, then nothing up to 10^50, then all.
	s := join(meet(periods.Above(low).Rest(), class(10, 0)), meet(span(plus(low, 1), n(0)), class(2, 0)), one(2), one(4), one(5), periods.Above(far))
	counts(t, "all of it", s, times(low, 2), times(far, 2), zint.Add(zint.Add(plus(tenth, 1), half), plus(far, 3)))
	counts(t, "at the first cut", s, low, plus(low, 2), n(2))
	counts(t, "below it", s, plus(low, -10), plus(low, -1), n(1))
	counts(t, "up to 0", s, plus(low, 1), n(0), half)
	counts(t, "the dots", s, n(1), far, n(3))
	counts(t, "at a dot", s, n(2), n(2), n(1))
	counts(t, "beside it", s, n(3), n(3), n(0))
	counts(t, "from dot to dot", s, n(2), n(5), n(3))
	counts(t, "at the last cut", s, far, plus(far, 1), n(1))
	counts(t, "above it", s, plus(far, 1), times(far, 2), far)
}

// Numbers that do not stand as they should are those that they say.
func TestP191AsTheyStand(t *testing.T) {
	s := meet(above(3), class(4, 1))
	for _, lo := range bigs(n(0), raw(true), raw(true, 0, 0), raw(false, 0), raw(false, 0, 0, 0)) {
		for _, hi := range bigs(n(20), raw(false, 20, 0), raw(false, 20, 0, 0, 0, 0, 0, 0)) {
			counts(t, "with noughts", s, lo, hi, n(4))
			lists(t, "with noughts", s, lo, hi, numbers(5, 9, 13, 17))
		}
		counts(t, "from 0 to 0", class(5, 0), lo, raw(true, 0), n(1))
		lists(t, "from 0 to 0", class(5, 0), lo, raw(true, 0), numbers(0))
		tells(t, "Next of 0", next(class(5, 0), lo), yes(n(0)))
		tells(t, "Last of 0", last(class(5, 0), lo), yes(n(0)))
		tells(t, "Next of 0", next(s, lo), yes(n(5)))
		tells(t, "Last of 0", last(upTo(-6), lo), yes(n(-6)))
	}
	long, below := raw(false, 9, 0, 0, 0), raw(true, 7, 0)
	counts(t, "below 0", every(), below, long, n(17))
	lists(t, "one", class(5, 3), below, raw(true, 7), numbers(-7))
	lists(t, "one", s, long, long, numbers(9))
	tells(t, "Next", next(s, long), yes(n(9)))
	tells(t, "Last", last(s, long), yes(n(9)))
	tells(t, "Last below 0", last(class(5, 3), below), yes(n(-7)))
	tells(t, "Next below 0", next(class(5, 4), below), yes(n(-6)))
}
