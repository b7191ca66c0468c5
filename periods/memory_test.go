package periods_test

import (
	"slices"
	"strconv"
	"strings"
	"sync"
	"testing"
	"time"

	"riddle/api"
	"riddle/arena"
	"riddle/periods"
)

// soon fails unless a call ends in some seconds: what goes every way down would go on for ever.
func soon(t *testing.T, what string, call func()) {
	t.Helper()
	done := make(chan int, 1)
	go func() {
		call()
		done <- 1
	}()
	select {
	case <-done:
	case <-time.After(60 * time.Second):
		t.Fatalf("%s: doesn't end", what)
	}
}

// soonOf is what Of answers in some seconds.
func soonOf(t *testing.T, what string, a *arena.Arena, id int) (s *periods.Set, e api.Errno) {
	t.Helper()
	was := tellArena(a)
	soon(t, what, func() { s, e = periods.Of(a, id, 0) })
	if tellArena(a) != was {
		t.Errorf("%s: something was made", what)
	}
	return s, e
}

// Of nodes that are reached on more ways than could be gone each is looked at once: each rung hangs at the two above it, and
// has an atom of its own.
func TestR1ManyWays(t *testing.T) {
	const rungs = 900
	ladder := func(a *arena.Arena, first, last int, own func(i int) form) int {
		for i := range rungs {
			first, last = last, laid(a.Join(api.And+i%2, first, last, own(i)(a)))
		}
		return last
	}
	a := arena.New(nil)
	id := ladder(a, x(1, 0)(a), div(64, 1, 0)(a), func(i int) form { return div(64, 1, -i) })
	s, e := soonOf(t, "many ways", a, id)
	if e != api.OK {
		t.Fatal(e)
	}
	hasJust(t, "many ways", s, func(k int) bool {
		first, last := k > 0, modulo(k, 64) == 0
		for i := range rungs {
			own := modulo(k-i, 64) == 0
			next := first && last && own
			if i%2 == 1 {
				next = first || last || own
			}
			first, last = last, next
		}
		return last
	})
	a = arena.New(nil)
	id = ladder(a, x(1, 0)(a), x(-1, 0)(a), func(i int) form { return x(1-2*(i/2%2), (i*37)%400-200) })
	s, e = soonOf(t, "many ways, with cuts", a, id)
	if e != api.OK {
		t.Fatal(e)
	}
	hasJust(t, "many ways, with cuts", s, func(k int) bool {
		first, last := k > 0, k < 0
		for i := range rungs {
			own := 0 < (1-2*(i/2%2))*k+(i*37)%400-200
			next := first && last && own
			if i%2 == 1 {
				next = first || last || own
			}
			first, last = last, next
		}
		return last
	})
	a = arena.New(nil)
	own := func(i int) form { return x(1, i) }
	if _, e := soonOf(t, "with a quantifier far below", a, ladder(a, some(0, x(1, 0))(a), x(1, 0)(a), own)); e != api.ErrQuant {
		t.Error(e)
	}
	a = arena.New(nil)
	if _, e := soonOf(t, "with another variable far below", a, ladder(a, y()(a), x(1, 0)(a), own)); e != api.ErrFree {
		t.Error(e)
	}
	a = arena.New(nil)
	if _, e := soonOf(t, "with a long period far below", a, ladder(a, long()(a), x(1, 0)(a), own)); e != api.ErrPeriod {
		t.Error(e)
	}
}

// Formulas that are nested as deep as a meter lets them.
func TestR1Deep(t *testing.T) {
	const levels = 1990
	deep := func(a *arena.Arena, id int, others ...int) int {
		for i := range levels {
			id = laid(a.Join(api.And+i%2, id, others[i%2]))
		}
		return id
	}
	a := arena.New(nil)
	// An And with the numbers above 3, then an Or with the evens, again and again.
	id := deep(a, div(3, 1, 0)(a), x(1, -3)(a), div(2, 1, 0)(a))
	s, e := soonOf(t, "what is deep", a, id)
	if e != api.OK {
		t.Fatal(e)
	}
	stands(t, "what is deep", s, 6, numbers(4))
	hasJust(t, "what is deep", s, func(k int) bool { return evens(k) || k > 3 && threes(k) })
	for _, f := range []struct {
		of   form
		want api.Errno
	}{{some(0, x(1, 0)), api.ErrQuant}, {y(), api.ErrFree}, {long(), api.ErrPeriod}} {
		a := arena.New(nil)
		if s, e := soonOf(t, "what is refused deep below", a, deep(a, f.of(a), x(1, -3)(a), div(2, 1, 0)(a))); s != nil || e != f.want {
			t.Errorf("%v, want %v", e, f.want)
		}
	}
}

// Formulas as wide as may be, with very many cuts and the longest period; nodes with very many kids each; and a stretch for
// each three nodes, joined one in another.
func TestR1Wide(t *testing.T) {
	const many = 660
	inDots := func(k int) bool { return 0 < k && k <= 3*many && modulo(k, 3) == 1 }
	a := arena.New(nil)
	var ids []int
	for i := range many {
		ids = append(ids, and(x(1, -3*i), x(-1, 3*i+2))(a))
	}
	ids = append(ids, div(4096, 1, 1)(a))
	s, e := soonOf(t, "a wide Or", a, laid(a.Join(api.Or, ids...)))
	if e != api.OK || s.Period() != 4096 || len(s.Cuts()) != 2*many {
		t.Fatalf("%v, %d cuts", e, len(s.Cuts()))
	}
	for k := -4097; k < 8192; k++ {
		if s.Has(n(k)) != (inDots(k) || modulo(k, 4096) == 4095) {
			t.Fatalf("of %d Has says %v", k, s.Has(n(k)))
		}
	}
	soon(t, "Same of many cuts", func() {
		if !s.Same(s.Rest().Rest()) || s.Same(s.Rest()) || s.Same(join(s, one(2))) {
			t.Error("Same of many cuts")
		}
	})

	a = arena.New(nil)
	id := div(4096, 1, 1)(a)
	for i := range 490 {
		id = laid(a.Join(api.Or, id, and(x(1, -3*i), x(-1, 3*i+2))(a)))
	}
	s, e = soonOf(t, "stretches one in another", a, id)
	if e != api.OK || s.Period() != 4096 || len(s.Cuts()) != 980 || !s.Has(n(1+3*489)) || s.Has(n(1+3*490)) {
		t.Fatal(e)
	}

	a = arena.New(nil)
	kids := []int{x(1, 0)(a), div(2, 1, 0)(a)}
	for i := range 1200 {
		kids = append(kids, laid(a.Join(api.And+i%2, kids...)))
	}
	// Each And has both atoms among its kids, and so has each Or.
	for i, want := range []*periods.Set{meet(above(0), class(2, 0)), join(above(0), class(2, 0))} {
		s, e := soonOf(t, "many kids", a, kids[1200+i])
		if e != api.OK {
			t.Fatal(e)
		}
		alike(t, "many kids", s, want)
	}
}

// Very great numbers, and very many noughts.
func TestR1Long(t *testing.T) {
	const limbs = 300000
	k := widest(limbs)
	soon(t, "great numbers", func() {
		s := made(periods.Above(k).Rest().Meet(class(3, 1)))
		stands(t, "great numbers", s, 3, bigs(wide(limbs+1)))
		// 2^32 leaves 1 by 3.
		has(t, "great numbers", s, bigs(plus(k, -2), n(1), plus(opposite(wide(limbs+1)), 2)), bigs(k, wide(limbs+1), plus(wide(limbs+1), 3), n(0)))
		alike(t, "great remainders", classOf(t, n(4096), plus(wide(limbs), 7)), class(4096, 7))
		alike(t, "great remainders below 0", classOf(t, n(5), opposite(wide(limbs))), class(5, 4))
		refusesClass(t, k, k, api.ErrPeriod)
		refusesClass(t, raw(true, make([]uint32, limbs)...), k, api.ErrZero)
		if !s.Same(s.Rest().Rest()) || s.Same(class(3, 1)) {
			t.Error("Same of great cuts")
		}
	})
}

// roomy is the same number in memory of its own, with spare room.
func roomy(k api.Int) api.Int {
	return api.Int{Neg: k.Neg, Mag: append(make([]uint32, 0, len(k.Mag)+3), k.Mag...)}
}

// kept is all of a number's memory, spare room too, as it is told.
func kept(k api.Int) string {
	return strconv.Itoa(len(k.Mag)) + " of " + tellInt(api.Int{Neg: k.Neg, Mag: k.Mag[:cap(k.Mag)]})
}

// spoil overwrites a number, its spare room too.
func spoil(k api.Int) {
	for i := range k.Mag[:cap(k.Mag)] {
		k.Mag[:cap(k.Mag)][i] = 55
	}
}

// Numbers that are handed in stay as they are, and are not kept (R3): their owner may overwrite them, and no set changes.
func TestR3Numbers(t *testing.T) {
	for _, k := range slices.Concat(greats(), bigs(raw(true, 0, 0), raw(false, 5, 0, 0))) {
		for _, d := range bigs(n(1), n(64), n(-4096), raw(false, 7, 0), n(0), n(5000)) {
			handed := bigs(roomy(k), roomy(d), roomy(k), roomy(k))
			was := kept(handed[0]) + kept(handed[1]) + kept(handed[2]) + kept(handed[3])
			up := periods.Above(handed[0])
			of, e := periods.Class(handed[1], handed[2])
			is := up.Has(handed[3])
			wasUp, wasOf := tellSet(up), tellSet(of)
			if now := kept(handed[0]) + kept(handed[1]) + kept(handed[2]) + kept(handed[3]); now != was {
				t.Fatalf("%s, was %s", now, was)
			}
			for _, h := range handed {
				spoil(h)
			}
			again, e2 := periods.Class(d, k)
			if tellSet(up) != wasUp || tellSet(of) != wasOf || tellSet(periods.Above(k)) != wasUp || tellSet(again) != wasOf || e != e2 || up.Has(k) != is {
				t.Fatalf("of %s and %s: what was overwritten has changed a set", tellInt(k), tellInt(d))
			}
		}
	}
}

// A list that Cuts answers is new memory, spare room too: what is done with it changes no set, and no other list.
func TestR3Cuts(t *testing.T) {
	d := &dice{state: 192}
	several := 0
	for range drawn / 4 {
		l := d.few(t, 2)
		all := []*periods.Set{l[0], l[1], meet(l[0], l[1]), join(l[0], l[1]), l[0].Rest(), meet(l[0], l[0])}
		var was []string
		for _, s := range all {
			was = append(was, tellSet(s))
		}
		for i, s := range all {
			cuts, others := s.Cuts(), s.Cuts()
			if len(cuts) > 1 {
				several++
			}
			told := tellInts(others)
			for j, cut := range cuts {
				behind := tellInts(cuts[j+1:])
				spoil(cut)
				if tellInts(cuts[j+1:]) != behind {
					t.Fatal("two cuts share memory")
				}
			}
			for j := range cuts[:cap(cuts)] {
				cuts[:cap(cuts)][j] = n(55)
			}
			if tellInts(others) != told {
				t.Fatal("two lists share memory")
			}
			for j, s := range all {
				if tellSet(s) != was[j] {
					t.Fatalf("what was done with the cuts of set %d has changed set %d: %s, was %s", i, j, short(tellSet(s)), short(was[j]))
				}
			}
		}
	}
	if several < drawn/8 {
		t.Errorf("several cuts %d times", several)
	}
}

// A set never changes by what is made of it, or asked of it, and the same call again answers the same.
func TestSetsNeverChange(t *testing.T) {
	d := &dice{state: 193}
	var sets []*periods.Set
	var was []string
	for range 30 {
		s := d.set(t, d.roll(8), 24).s
		sets, was = append(sets, s), append(was, tellSet(s))
	}
	for range 1200 {
		s, o := sets[d.roll(len(sets))], sets[d.roll(len(sets))]
		if d.roll(20) == 0 {
			o = nil
		}
		both, e := s.Meet(o)
		either, e2 := s.Join(o)
		rest := s.Rest()
		again, e3 := s.Meet(o)
		once, e4 := s.Join(o)
		if tellSet(both) != tellSet(again) || tellSet(either) != tellSet(once) || tellSet(rest) != tellSet(s.Rest()) || e != e2 || e != e3 || e != e4 || s.Same(o) != s.Same(o) {
			t.Fatalf("%s; %s: the same call answers otherwise", short(tellSet(s)), short(tellSet(o)))
		}
		// What came is kept, and taken for more.
		if both != nil && len(both.Cuts()) < 12 {
			place := d.roll(len(sets))
			if d.roll(2) == 0 {
				both = either
			}
			sets[place], was[place] = both, tellSet(both)
		}
		for range 3 {
			i := d.roll(len(sets))
			if tellSet(sets[i]) != was[i] {
				t.Fatalf("%s, was %s", short(tellSet(sets[i])), short(was[i]))
			}
		}
	}
	for i, s := range sets {
		if tellSet(s) != was[i] {
			t.Fatalf("%s, was %s", short(tellSet(s)), short(was[i]))
		}
	}
}

// No answer hangs on what runs beside it (R4): several hands may ask of the same sets, and of one arena, at one time.
func TestR4WhateverElseRuns(t *testing.T) {
	const hands = 8
	d := &dice{state: 194}
	var sets []*periods.Set
	var arenas []*arena.Arena
	for range 60 {
		sets, arenas = append(sets, d.few(t, 1)...), append(arenas, d.grown())
	}
	answers := func() string {
		var b strings.Builder
		for i, s := range sets {
			o := sets[(i*7+3)%len(sets)]
			both, e := s.Meet(o)
			either, e2 := s.Join(o)
			of, e3 := periods.Of(arenas[i], arenas[i].Len()-1, 0)
			for _, x := range []*periods.Set{s, o, both, either, s.Rest(), of} {
				b.WriteString(tellSet(x) + "\n")
			}
			b.WriteString(e.Error() + e2.Error() + e3.Error() + strconv.FormatBool(s.Same(o)) + "\n")
		}
		return b.String()
	}
	wanted := answers()
	var group sync.WaitGroup
	var got [hands]string
	for hand := range hands {
		group.Go(func() { got[hand] = answers() })
	}
	group.Wait()
	for hand := range hands {
		if got[hand] != wanted {
			t.Fatal("answers differ where others run")
		}
	}
}
