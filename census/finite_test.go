package census_test

import (
	"strconv"
	"testing"

	"riddle/api"
	"riddle/periods"
	"riddle/zint"
)

// Numbers between cuts alone.
func TestP193Finite(t *testing.T) {
	for i, c := range []struct {
		s    *periods.Set
		want int
	}{
		{none(), 0}, {by(2, none()), 0}, {by(4096, none()), 0}, {one(0), 1}, {one(-7), 1}, {between(1, 9), 9}, {between(-9, 9), 19}, {join(one(-9), one(9)), 2},
		{by(4096, between(-9, 9)), 19}, {meet(between(1, 100), class(10, 3)), 10}, {meet(between(4, 102), class(10, 3)), 9}, {meet(between(3, 103), class(10, 3)), 11},
		{meet(between(1, 3), class(10, 5)), 0}, {join(meet(between(1, 3), class(10, 5)), one(50)), 1},
		{meet(between(0, 4095), class(4096, 4095)), 1}, {meet(between(0, 4094), class(4096, 4095)), 0}, {meet(between(-1, 4095), class(4096, 4095)), 2}, {meet(between(0, 4095), class(4096, 4095).Rest()), 4095},
		{join(between(-100, -50), meet(between(-49, 49), class(3, 0)), between(50, 100)), 51 + 33 + 51},
	} {
		tells(t, "row "+strconv.Itoa(i), finite(c.s), yes(n(c.want)))
		tells(t, "the Rest of row "+strconv.Itoa(i), finite(c.s.Rest()), no())
	}
	dots := none()
	for k := range 60 {
		dots = join(dots, one(5*k-111))
		tells(t, "dots", finite(dots), yes(n(k+1)))
		tells(t, "dots of a long period", finite(by(4096, dots)), yes(n(k+1)))
	}
}

// Numbers at one end, or at both, though they be few.
func TestP193WithoutEnd(t *testing.T) {
	for i, s := range []*periods.Set{every(), by(4096, every()), above(3), upTo(3), class(2, 0), class(4096, 0), class(4096, 4095), class(4096, 2048), meet(above(3), class(4096, 3)), meet(above(3), class(4096, 4)), meet(above(3), class(4096, 5)), meet(upTo(3), class(4096, 3)), meet(upTo(3), class(4096, 4)), meet(upTo(3), class(4096, 2)), between(1, 9).Rest(), join(upTo(-5), one(4)), join(one(-5), above(4)), join(meet(upTo(-5), class(64, 63)), between(0, 3)), join(between(0, 3), meet(above(50), class(64, 50))), join(meet(upTo(-5), class(64, 63)), meet(above(50), class(64, 50))), periods.Above(ten(90)), periods.Above(ten(90)).Rest()} {
		tells(t, "set "+strconv.Itoa(i), finite(s), no())
	}
}

// Very many numbers between two cuts that are far from each other: more than fit an int, or were ever gone through.
func TestP193VeryMany(t *testing.T) {
	for _, far := range bigs(n(1<<30), wide(2), widest(2), wide(3), widest(7), ten(30), ten(300)) {
		low := opposite(far)
		tells(t, "all", finite(span(low, far)), yes(plus(times(far, 2), 1)))
		tells(t, "above 0", finite(span(n(1), far)), yes(far))
		tells(t, "below 0", finite(span(low, n(-1))), yes(far))
		tells(t, "far from 0", finite(span(far, times(far, 3))), yes(plus(times(far, 2), 1)))
		for _, p := range []int{2, 3, 64, 4095, 4096} {
			what := "by " + strconv.Itoa(p)
			s := meet(span(n(0), plus(times(far, p), -1)), class(p, 1))
			tells(t, what, finite(s), yes(far))
			tells(t, what+", the others", finite(meet(span(n(0), plus(times(far, p), -1)), class(p, 1).Rest())), yes(times(far, p-1)))
			tells(t, what+", and more behind", finite(join(s, span(times(far, p), times(far, p+1)))), yes(plus(times(far, 2), 1)))
		}
		// Each of the two ends has its own: the greatest numbers that leave just so much.
		tells(t, "two ends", finite(join(span(low, plus(low, 4)), span(plus(far, -4), far))), yes(n(10)))
	}
	total, e := zint.Parse("20000000000000000000000000000000000000001")
	if e != api.OK {
		t.Fatal(e)
	}
	tells(t, "by its text", finite(span(opposite(ten(40)), ten(40))), yes(total))
}
