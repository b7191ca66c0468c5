package census_test

import (
	"slices"
	"strconv"
	"strings"
	"sync"
	"testing"
	"time"

	"riddle/api"
	"riddle/census"
	"riddle/periods"
	"riddle/zint"
)

// soon fails unless a call ends in some seconds: what goes from number to number would go on for ever.
func soon(t *testing.T, what string, call func()) {
	t.Helper()
	done := make(chan int, 1)
	go func() {
		call()
		done <- 1
	}()
	select {
	case <-done:
	case <-time.After(60 * time.Second):
		t.Fatalf("%s: doesn't end", what)
	}
}

// The work does not hang on how far lo, hi, x and the cuts are from one another: numbers of hundreds of limbs, with the
// longest period.
func TestR1Far(t *testing.T) {
	const limbs = 400
	far := wide(limbs)
	low := opposite(far)
	soon(t, "far", func() {
		// From -far up to far what leaves 0 by 4096, which far does.
		s := meet(span(low, far), class(4096, 0))
		half := api.Int{Mag: slices.Concat(make([]uint32, limbs-2), []uint32{1 << 20})}
		counts(t, "all", s, times(low, 3), times(far, 3), plus(times(half, 2), 1))
		counts(t, "the half", s, n(1), widest(2*limbs), half)
		tells(t, "Finite", finite(s), yes(plus(times(half, 2), 1)))
		tells(t, "Least", least(s), yes(low))
		tells(t, "Next", next(s, opposite(widest(2*limbs))), yes(low))
		tells(t, "Last", last(s, widest(2*limbs)), yes(far))
		tells(t, "Next", next(s, plus(far, -4095)), yes(far))
		tells(t, "Last", last(s, plus(low, 4095)), yes(low))
		tells(t, "none above", next(s, plus(far, 1)), no())
		tells(t, "none below", last(s, plus(low, -1)), no())
		tooLong(t, "far", s, times(low, 3), times(far, 3))
		lists(t, "at the end", s, plus(far, -3*4096), times(far, 3), run(plus(far, -3*4096), 4, 4096))
		lists(t, "none", s, plus(far, 1), widest(2*limbs), nil)
		up := meet(periods.Above(low).Rest(), class(4096, 1))
		tells(t, "down for ever", least(up), no())
		tells(t, "down for ever", finite(up), no())
		tells(t, "Last of all", last(up, widest(2*limbs)), yes(plus(low, 1-4096)))
	})
}

// Very great numbers, and very many noughts.
func TestR1Long(t *testing.T) {
	const limbs = 200000
	far := wide(limbs)
	noughts := raw(true, make([]uint32, limbs)...)
	soon(t, "great numbers", func() {
		s := meet(periods.Above(far).Rest(), class(3, 1))
		// 2^32 leaves 1 by 3.
		tells(t, "Last", last(s, plus(far, 1)), yes(far))
		tells(t, "Next", next(s, opposite(far)), yes(plus(opposite(far), 2)))
		counts(t, "a few", s, plus(far, -3), wide(limbs+1), n(2))
		counts(t, "to noughts", above(-4), opposite(far), noughts, n(4))
		lists(t, "a few", s, noughts, raw(false, append([]uint32{8}, make([]uint32, limbs)...)...), numbers(1, 4, 7))
		tells(t, "Next of noughts", next(s, noughts), yes(n(1)))
		tells(t, "Last of noughts", last(s, noughts), yes(n(-2)))
	})
}

// Very many cuts, far from one another, with the longest period.
func TestR1ManyCuts(t *testing.T) {
	const many = 400
	far := ten(30)
	var s *periods.Set
	soon(t, "many cuts", func() {
		s = class(4096, 9)
		for i := range many {
			s = join(s, span(times(far, i+1), plus(times(far, i+1), 1)))
		}
	})
	if s == nil || s.Period() != 4096 || len(s.Cuts()) != 2*many {
		t.Fatal("cuts")
	}
	soon(t, "calls with many cuts", func() {
		end := times(far, many+1)
		of := class(4096, 9)
		want := counted(t, of, n(0), end)
		for i := range many {
			for k := range 2 {
				want = plus(want, bit(!of.Has(plus(times(far, i+1), k))))
			}
		}
		counts(t, "many cuts", s, n(0), end, want)
		tells(t, "Finite", finite(s), no())
		tells(t, "Least", least(s), no())
		tooLong(t, "many cuts", s, n(0), end)
		// The dots alone, ahead of one number far behind them, and the other way round.
		dots := meet(s, of.Rest())
		total := finite(dots)
		list, e := census.List(dots, n(0), plus(times(far, 300), 1))
		if !total.is || zint.Cmp(total.k, n(2*many)) > 0 || e != api.OK || len(list) > 600 || len(list) < 590 {
			t.Errorf("%v, %d, %v", total, len(list), e)
		}
		rises(t, "dots", list)
		gaps := meet(dots, periods.Above(times(far, many)))
		gaps = join(gaps, meet(class(4096, 9), periods.Above(end)))
		tells(t, "Least behind all", least(gaps), yes(plus(times(far, many), 1)))
	})
}

// All stretches have a row with a number, and none of them lies there: each is looked at.
func TestR1NoneInManyStretches(t *testing.T) {
	const many = 500
	s := none()
	soon(t, "many stretches", func() {
		for i := range many {
			s = join(s, meet(between(3*i, 3*i+1), class(4096, 3*i+2)))
		}
	})
	if len(s.Cuts()) != 2*many {
		t.Fatalf("%d cuts", len(s.Cuts()))
	}
	soon(t, "calls", func() {
		tells(t, "Next", next(s, n(-9)), no())
		tells(t, "Last", last(s, n(9999)), no())
		tells(t, "Least", least(s), no())
		tells(t, "Finite", finite(s), yes(n(0)))
		counts(t, "none", s, opposite(ten(30)), ten(30), n(0))
		lists(t, "none", s, opposite(ten(30)), ten(30), nil)
		s = join(s, one(2*9999))
		tells(t, "Next behind all", next(s, n(-9)), yes(n(2*9999)))
		tells(t, "Finite with one", finite(s), yes(n(1)))
	})
}

// roomy is the same number in memory of its own, with spare room.
func roomy(k api.Int) api.Int {
	return api.Int{Neg: k.Neg, Mag: append(make([]uint32, 0, len(k.Mag)+3), k.Mag...)}
}

// kept is all of a number's memory, spare room too, as it is told.
func kept(k api.Int) string {
	return strconv.Itoa(len(k.Mag)) + " of " + tellInt(api.Int{Neg: k.Neg, Mag: k.Mag[:cap(k.Mag)]})
}

// spoil overwrites a number, its spare room too.
func spoil(k api.Int) {
	for i := range k.Mag[:cap(k.Mag)] {
		k.Mag[:cap(k.Mag)][i] = 55
	}
}

// answers are all that the calls tell of a set, with two numbers; the numbers of the answers stand in a list.
func answers(s *periods.Set, lo, hi api.Int) (string, []api.Int) {
	count, e := census.Count(s, lo, hi)
	list, e2 := census.List(s, lo, hi)
	all := append(list[:len(list):len(list)], count)
	text := e.Error() + " " + e2.Error()
	for _, f := range []found{next(s, lo), next(s, hi), last(s, lo), last(s, hi), least(s), finite(s)} {
		text += " " + strconv.FormatBool(f.is)
		all = append(all, f.k)
	}
	return text + " " + tellInts(all), all
}

// Numbers that are handed in stay as they are, and are not kept; what is answered is new memory; no set changes by any of
// this (R3), and the same call again answers the same.
func TestR3Memory(t *testing.T) {
	d := &dice{state: 192}
	several := 0
	for range drawn / 2 {
		m := d.model()
		s := m.set()
		was := tellSet(s)
		l := d.places(m, 2)
		if d.roll(4) == 0 {
			// Numbers that are in the set themselves could be handed through.
			for i, x := range l {
				if f := next(s, x); f.is {
					l[i] = f.k
				}
			}
		}
		lo, hi := roomy(l[0]), roomy(l[1])
		wasLo, wasHi := kept(lo), kept(hi)
		told, given := answers(s, lo, hi)
		if kept(lo) != wasLo || kept(hi) != wasHi {
			t.Fatalf("%s, %s, was %s, %s", kept(lo), kept(hi), wasLo, wasHi)
		}
		if len(given) > 9 {
			several++
		}
		spoil(lo)
		spoil(hi)
		if _, now := answers(s, l[0], l[1]); tellInts(now) != tellInts(given) {
			t.Fatalf("%s, was %s", tellInts(now), tellInts(given))
		}
		for i, k := range given {
			behind := tellInts(given[i+1:])
			spoil(k)
			if tellInts(given[i+1:]) != behind {
				t.Fatal("two answers share memory")
			}
		}
		if tellSet(s) != was {
			t.Fatalf("%s, was %s", short(tellSet(s)), short(was))
		}
		if again, _ := answers(s, l[0], l[1]); again != told {
			t.Fatalf("%s, was %s", short(again), short(told))
		}
	}
	if several < drawn/20 {
		t.Errorf("several numbers %d times", several)
	}
}

// A list that is answered is new memory, its spare room too.
func TestR3Lists(t *testing.T) {
	s := join(meet(above(3), class(4, 1)), between(-9, -5))
	first, e := census.List(s, n(-20), n(40))
	second, e2 := census.List(s, n(-20), n(40))
	if e != api.OK || e2 != api.OK || len(first) < 10 {
		t.Fatal(e, e2, len(first))
	}
	told := tellInts(second)
	for i := range first[:cap(first)] {
		first[:cap(first)][i] = n(55)
	}
	if tellInts(second) != told {
		t.Error("two lists share memory")
	}
	lists(t, "again", s, n(-20), n(40), second)
}

// No answer hangs on what runs beside it (R4): several hands may ask of the same sets at one time.
func TestR4WhateverElseRuns(t *testing.T) {
	const hands = 8
	d := &dice{state: 193}
	var sets []*periods.Set
	var ends []api.Int
	for range 40 {
		m := d.model()
		sets, ends = append(sets, m.set()), append(ends, d.places(m, 2)...)
	}
	all := func() string {
		var b strings.Builder
		for i, s := range sets {
			told, _ := answers(s, ends[2*i], ends[2*i+1])
			b.WriteString(told + "\n")
		}
		return b.String()
	}
	wanted := all()
	var group sync.WaitGroup
	var got [hands]string
	for hand := range hands {
		group.Go(func() { got[hand] = all() })
	}
	group.Wait()
	for hand := range hands {
		if got[hand] != wanted {
			t.Fatal("answers differ where others run")
		}
	}
}
