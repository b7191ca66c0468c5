package census_test

import (
	"strconv"
	"testing"

	"riddle/api"
	"riddle/periods"
)

// firstOf is the first of the numbers from x on, k away from it or nearer, that a set has; step is 1 or -1.
func firstOf(s *periods.Set, x, k, step int) found {
	for i := range k {
		if s.Has(n(x + i*step)) {
			return yes(n(x + i*step))
		}
	}
	return no()
}

// From each number, below the cuts, at them, between them and above them; the sets have no number that is farther than that
// from one of these, if it has any.
func TestP192Near(t *testing.T) {
	for i, s := range near() {
		what := "set " + strconv.Itoa(i)
		for x := -36; x <= 36; x++ {
			tells(t, what+": Next of "+strconv.Itoa(x), next(s, n(x)), firstOf(s, x, 4400, 1))
			tells(t, what+": Last of "+strconv.Itoa(x), last(s, n(x)), firstOf(s, x, 4400, -1))
		}
	}
}

// x is in the set, just beside a number of it, and a period away.
func TestP192InIt(t *testing.T) {
	for _, p := range []int{1, 2, 3, 63, 64, 1000, 4095, 4096} {
		for _, place := range bigs(n(0), n(-1), n(4097), wide(2), opposite(widest(3)), ten(70)) {
			s := made(periods.Class(n(p), place))
			what := "of period " + strconv.Itoa(p)
			tells(t, what+", in it", next(s, place), yes(place))
			tells(t, what+", in it", last(s, place), yes(place))
			tells(t, what+", one above", next(s, plus(place, 1)), yes(plus(place, p)))
			tells(t, what+", one below", last(s, plus(place, -1)), yes(plus(place, -p)))
			tells(t, what+", one below", next(s, plus(place, -1)), yes(plus(place, -bit(p == 1))))
			tells(t, what+", one above", last(s, plus(place, 1)), yes(plus(place, bit(p == 1))))
			tells(t, what+", a period below", next(s, plus(place, 1-p)), yes(plus(place, bit(p == 1)*(1-p))))
			tells(t, what+", a period above", last(s, plus(place, p-1)), yes(plus(place, bit(p == 1)*(p-1))))
		}
	}
}

// A finding is a set with what is next to numbers far below and far above all its cuts.
type finding struct {
	s                                *periods.Set
	nextLow, nextHigh, lastLow, high found
	least                            found
}

// Numbers at one end, at both ends, between two cuts alone; from far below all cuts and from far above. The far numbers are
// 10^40 times -1 and 1: both leave 0 by 10, and by 4096.
func TestP192Far(t *testing.T) {
	far := ten(40)
	low := opposite(far)
	for i, c := range []finding{
		{none(), no(), no(), no(), no(), no()},
		{every(), yes(low), yes(far), yes(low), yes(far), no()},
		{above(3), yes(n(4)), yes(far), no(), yes(far), yes(n(4))},
		{upTo(3), yes(low), no(), yes(low), yes(n(3)), no()},
		{between(-3, 3), yes(n(-3)), no(), no(), yes(n(3)), yes(n(-3))},
		{between(-3, 3).Rest(), yes(low), yes(far), yes(low), yes(far), no()},
		{meet(above(3), class(10, 9)), yes(n(9)), yes(plus(far, 9)), no(), yes(plus(far, -1)), yes(n(9))},
		{meet(upTo(3), class(10, 9)), yes(plus(low, 9)), no(), yes(plus(low, -1)), yes(n(-1)), no()},
		{meet(between(-30, 30), class(10, 9)), yes(n(-21)), no(), no(), yes(n(29)), yes(n(-21))},
		{join(meet(upTo(-5), class(10, 9)), meet(above(5), class(10, 1))), yes(plus(low, 9)), yes(plus(far, 1)), yes(plus(low, -1)), yes(plus(far, -9)), no()},
		{class(4096, 1), yes(plus(low, 1)), yes(plus(far, 1)), yes(plus(low, -4095)), yes(plus(far, -4095)), no()},
		{class(64, 1), yes(plus(low, 1)), yes(plus(far, 1)), yes(plus(low, -63)), yes(plus(far, -63)), no()},
		// Stretches in which no number of their row lies, alone, ahead of others and behind them.
		{meet(between(1, 3), class(10, 5)), no(), no(), no(), no(), no()},
		{join(meet(between(1, 3), class(10, 5)), one(12)), yes(n(12)), no(), no(), yes(n(12)), yes(n(12))},
		{join(meet(between(1, 3), class(10, 5)), one(-12)), yes(n(-12)), no(), no(), yes(n(-12)), yes(n(-12))},
		{join(meet(between(1, 3), class(10, 5)), meet(between(5, 7), class(10, 2)), meet(between(9, 14), class(10, 8)), one(33), meet(between(40, 41), class(10, 9))), yes(n(33)), no(), no(), yes(n(33)), yes(n(33))},
		{by(4096, one(7)), yes(n(7)), no(), no(), yes(n(7)), yes(n(7))},
		{join(one(-9), one(0), one(6)), yes(n(-9)), no(), no(), yes(n(6)), yes(n(-9))},
		{meet(above(-1), class(4096, 4095)), yes(n(4095)), yes(plus(far, 4095)), no(), yes(plus(far, -1)), yes(n(4095))},
	} {
		what := "row " + strconv.Itoa(i)
		tells(t, what+": Next from far below", next(c.s, low), c.nextLow)
		tells(t, what+": Next from far above", next(c.s, far), c.nextHigh)
		tells(t, what+": Last from far below", last(c.s, low), c.lastLow)
		tells(t, what+": Last from far above", last(c.s, far), c.high)
		tells(t, what+": Least", least(c.s), c.least)
	}
}

// The cuts themselves are far, and far from one another; x lies at them, beside them, and between.
func TestP192FarCuts(t *testing.T) {
	far := ten(60)
	low, mid := opposite(far), ten(30)
	// From -10^60 to 10^30 nothing but what leaves 7 by 4096, one number at 10^60.
	s := join(meet(span(low, mid), class(4096, 7)), span(far, far))
	// Both ends leave 0 by 4096.
	first, lastOne := yes(plus(low, 7)), yes(plus(mid, 7-4096))
	for _, x := range bigs(times(low, 9), plus(low, -1), low) {
		tells(t, "from below", next(s, x), first)
	}
	tells(t, "below all", last(s, plus(low, -1)), no())
	tells(t, "below all", last(s, plus(first.k, -1)), no())
	tells(t, "the first one", last(s, first.k), first)
	tells(t, "the second one", next(s, plus(first.k, 1)), yes(plus(first.k, 4096)))
	tells(t, "between", next(s, n(0)), yes(n(7)))
	tells(t, "between", last(s, n(0)), yes(n(7-4096)))
	tells(t, "the last one there", next(s, lastOne.k), lastOne)
	for _, x := range bigs(plus(lastOne.k, 1), mid, plus(mid, 1), plus(mid, 99999), plus(far, -1), far) {
		tells(t, "from where there is none", next(s, x), yes(far))
	}
	for _, x := range bigs(lastOne.k, plus(lastOne.k, 1), mid, plus(mid, 1), plus(mid, 99999), plus(far, -1)) {
		tells(t, "back over where there is none", last(s, x), lastOne)
	}
	for _, x := range bigs(far, plus(far, 1), times(far, 9)) {
		tells(t, "from above", last(s, x), yes(far))
	}
	tells(t, "above all", next(s, plus(far, 1)), no())
	tells(t, "Least", least(s), first)
	tells(t, "Least of the Rest", least(s.Rest()), no())
	tells(t, "Least", least(span(far, far)), yes(far))
	tells(t, "Least", least(span(low, far)), yes(low))
}

// Least of sets that go down for ever, though by few numbers, and of such as end below the first cut.
func TestP192Least(t *testing.T) {
	for i, s := range []*periods.Set{every(), class(2, 1), class(4096, 0), class(4096, 17), upTo(5), meet(upTo(-9), class(4096, 1)), join(meet(upTo(-9), class(4096, 4095)), one(4)), join(meet(upTo(-9), class(64, 0)), above(100)), above(3).Rest(), one(4).Rest()} {
		tells(t, "without a least, set "+strconv.Itoa(i), least(s), no())
	}
	for _, k := range bigs(n(0), n(-1), n(1), n(4096), wide(2), opposite(wide(2)), widest(5), opposite(ten(99))) {
		up := periods.Above(plus(k, -1))
		tells(t, "Least of all from it on", least(up), yes(k))
		tells(t, "Least of what its class has", least(meet(up, made(periods.Class(n(4096), k)))), yes(k))
		tells(t, "Least of what the class above has", least(meet(up, made(periods.Class(n(4096), plus(k, 4095))))), yes(plus(k, 4095)))
		tells(t, "Least of what the class below has", least(meet(up, made(periods.Class(n(4096), plus(k, -1))))), yes(plus(k, 4095)))
		tells(t, "Least of one", least(span(k, k)), yes(k))
	}
}

// What an answer is beside a false, is 0.
func TestP192NoneIsZero(t *testing.T) {
	for _, f := range []found{next(none(), n(7)), last(none(), wide(4)), least(none()), least(every()), finite(every()), next(upTo(3), n(4)), last(above(3), n(3)), finite(above(3))} {
		if f.is || f.k.Neg || len(f.k.Mag) != 0 {
			t.Error(f)
		}
	}
	var zero api.Int
	tells(t, "0 is found, too", next(class(7, 0), n(-3)), found{zero, true})
	tells(t, "0 is found, too", last(class(7, 0), n(3)), found{zero, true})
	tells(t, "0 is found, too", least(above(-1)), found{zero, true})
}
