package census_test

import (
	"strconv"
	"testing"

	"riddle/api"
	"riddle/census"
	"riddle/periods"
	"riddle/zint"
)

// rises fails unless a list rises, and its numbers stand as they should.
func rises(t *testing.T, what string, list []api.Int) {
	t.Helper()
	for i, k := range list {
		if !zint.Valid(k) || i > 0 && zint.Cmp(list[i-1], k) >= 0 {
			t.Fatalf("%s: at place %d, %s", what, i, short(tellInts(list)))
		}
	}
}

// From each number to some other ones, in sets that are gone through.
func TestP191ListNear(t *testing.T) {
	for i, s := range near() {
		what := "set " + strconv.Itoa(i)
		for lo := -34; lo <= 34; lo += 3 {
			for hi := lo - 2; hi <= 34; hi += 1 + (hi+lo+100)%4 {
				var want []api.Int
				for k := lo; k <= hi; k++ {
					if s.Has(n(k)) {
						want = append(want, n(k))
					}
				}
				lists(t, what, s, n(lo), n(hi), want)
			}
		}
	}
}

// run are so many numbers, with so much between them.
func run(first api.Int, count, step int) []api.Int {
	var l []api.Int
	for i := range count {
		l = append(l, plus(first, i*step))
	}
	return l
}

// None, one, just MaxList, and one more.
func TestP191TheLongestList(t *testing.T) {
	const most = api.MaxList
	for _, first := range bigs(n(0), n(-500), n(-1), n(77), wide(3), opposite(wide(3)), ten(60)) {
		lists(t, "of all", every(), first, plus(first, most-1), run(first, most, 1))
		tooLong(t, "of all", every(), first, plus(first, most))
		tooLong(t, "of all", every(), plus(first, -1), plus(first, most-1))
		tooLong(t, "of all", every(), opposite(ten(200)), ten(200))
		for _, p := range []int{2, 3, 64, 1000, 4095, 4096} {
			s := made(periods.Class(n(p), first))
			what := "of period " + strconv.Itoa(p)
			lists(t, what, s, first, plus(first, most*p-1), run(first, most, p))
			lists(t, what, s, plus(first, 1-p), plus(first, most*p-1), run(first, most, p))
			lists(t, what, s, plus(first, 1), plus(first, p-1), nil)
			lists(t, what, s, plus(first, 1), plus(first, p), bigs(plus(first, p)))
			tooLong(t, what, s, first, plus(first, most*p))
			tooLong(t, what, s, plus(first, -p), plus(first, most*p-1))
			if got, e := census.List(s.Rest(), plus(first, 1), plus(first, p-1)); p < most+2 && (e != api.OK || len(got) != p-1) || p > most+1 && e != api.ErrLong {
				t.Errorf("%s, the Rest: %d, %v", what, len(got), e)
			}
		}
	}
}

// What is too long only by several stretches together, and what is so by the first one already.
func TestP191LongByStretches(t *testing.T) {
	for _, c := range []struct{ first, second int }{{500, 500}, {999, 1}, {1, 999}, {1000, 0}, {0, 1000}} {
		s := none()
		if c.first > 0 {
			s = join(s, between(-5000, -5001+c.first))
		}
		if c.second > 0 {
			s = join(s, between(5000, 4999+c.second))
		}
		want := append(run(n(-5000), c.first, 1), run(n(5000), c.second, 1)...)
		what := strconv.Itoa(c.first) + " and " + strconv.Itoa(c.second)
		lists(t, what, s, n(-6000), n(7000), want)
		lists(t, what, s, opposite(ten(300)), ten(300), want)
		lists(t, what, by(4096, s), opposite(ten(300)), ten(300), want)
		for _, more := range bigs(opposite(ten(299)), n(-5001), n(0), n(6500), ten(299)) {
			tooLong(t, what+" and one more", join(s, span(more, more)), opposite(ten(300)), ten(300))
		}
		tooLong(t, what+" and the others", s.Rest(), n(-6000), n(7000))
	}
}

// lo and hi are very far from one another, with few numbers between them, or just as far as the last one of them.
func TestP191FarAndFew(t *testing.T) {
	far := ten(80)
	low := opposite(far)
	few := bigs(low, plus(low, 7), n(-3), n(0), n(4095), n(4096), plus(far, -4096), far)
	s := none()
	for _, k := range few {
		s = join(s, span(k, k))
	}
	for _, period := range []int{1, 2, 4095, 4096} {
		s := by(period, s)
		what := "few of period " + strconv.Itoa(period)
		lists(t, what, s, low, far, few)
		lists(t, what, s, times(low, 7), times(far, 9), few)
		lists(t, what, s, plus(low, 1), plus(far, -1), few[1:7])
		lists(t, what, s, n(-3), n(4095), few[2:5])
		lists(t, what, s, n(-2), plus(far, -4097), few[3:6])
		lists(t, what, s, n(4097), plus(far, -4097), nil)
		lists(t, what, s, plus(far, 1), times(far, 2), nil)
		counts(t, what, s, low, far, n(8))
	}
	lists(t, "none", none(), low, far, nil)
	lists(t, "none, of a long period", by(4096, none()), low, far, nil)
	// Of a row without numbers there are more periods than could be gone through.
	lists(t, "behind the last one", meet(upTo(9), class(64, 8)), n(0), far, numbers(8))
	lists(t, "ahead of the first one", meet(above(9), class(64, 8)), low, n(100), numbers(72))
}

// Lists of sets with several stretches rise.
func TestP191ListsRise(t *testing.T) {
	s := join(meet(upTo(-90), class(64, 3)), meet(between(-80, -3), class(64, 63).Rest()), meet(between(0, 200), class(64, 5)), above(5000))
	list, e := census.List(s, n(-2000), n(5500))
	if e != api.OK || len(list) < 500 {
		t.Fatalf("%d, %v", len(list), e)
	}
	rises(t, "several stretches", list)
	counts(t, "several stretches", s, n(-2000), n(5500), n(len(list)))
}
