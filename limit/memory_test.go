package limit_test

import (
	"slices"
	"strconv"
	"strings"
	"sync"
	"testing"
	"time"

	"riddle/api"
	"riddle/arena"
	"riddle/limit"
	"riddle/zint"
)

// answers are what all calls say.
type answers struct {
	low, high    int
	lower, upper []api.Term
	delta        api.Int
	es           [4]api.Errno
}

func ask(a *arena.Arena, q asking) answers {
	var s answers
	s.lower, s.upper, s.es[0] = limit.Bounds(a, q.id, q.v)
	s.delta, s.es[1] = limit.Delta(a, q.id, q.v)
	s.low, s.es[2] = limit.Low(a, q.id, q.v)
	s.high, s.es[3] = limit.High(a, q.id, q.v)
	return s
}

func (s answers) String() string {
	texts := []string{tellTerms(s.lower), tellTerms(s.upper), tellInt(s.delta), strconv.Itoa(s.low), strconv.Itoa(s.high)}
	for _, e := range s.es {
		texts = append(texts, e.Error())
	}
	return strings.Join(texts, ", ")
}

// soon fails unless all calls are done in some seconds: what goes every way down would go on for ever.
func soon(t *testing.T, a *arena.Arena, id, v int) answers {
	t.Helper()
	done := make(chan answers, 1)
	go func() { done <- ask(a, asking{id, v}) }()
	select {
	case s := <-done:
		return s
	case <-time.After(60 * time.Second):
		t.Fatalf("of %d and v%d: doesn't end", id, v)
	}
	return answers{}
}

// fine fails unless no call was refused.
func (s answers) fine(t *testing.T, what string) {
	t.Helper()
	if s.es != [4]api.Errno{} {
		t.Errorf("%s: %v", what, s.es)
	}
}

// ladder is a formula with more ways down than could be gone: each rung hangs at the two above it, and has an atom of its
// own, so that no two of them come to the same.
func ladder(a *arena.Arena, first, last, rungs int, own func(rung int) form) int {
	for i := range rungs {
		first, last = last, laid(a.Join(api.And+i%2, first, last, own(i)(a)))
	}
	return last
}

// Of nodes that are reached on more ways than could be gone each is gone through once.
func TestR1ManyWays(t *testing.T) {
	a := arena.New(nil)
	rung := func(rung int) form {
		return joined(api.Or-rung%2, of(less(rung, p(20+rung, 1)), less(rung, p(20+rung, 2), p(0, 1-rung%2*2)), div(2+rung%5, 1, p(20+rung, 1), p(0, 1))))
	}
	id := ladder(a, xy(1, 1, 0)(a), xy(-1, 1, 0)(a), 200, rung)
	was := a.Len()
	got := soon(t, a, id, 0)
	got.fine(t, "many ways")
	if len(got.lower) != 101 || len(got.upper) != 101 || !isInt(got.delta, n(60)) || a.Len() == was || a.Meter().Spent() != a.Len()-2 {
		t.Errorf("%d lower ones, %d upper ones, Delta %s, %d made", len(got.lower), len(got.upper), tellInt(got.delta), a.Len()-was)
	}
	if got := soon(t, a, id, 9999); got.es != [4]api.Errno{} || len(got.lower)+len(got.upper) > 0 || !isInt(got.delta, n(1)) || got.low != got.high {
		t.Errorf("without the variable: %s", got)
	}
	a = arena.New(nil)
	id = ladder(a, some(0, x(1, 0))(a), y(1, 0)(a), 200, rung)
	if got := soon(t, a, id, 0); got.es != [4]api.Errno{api.ErrQuant, api.ErrQuant, api.ErrQuant, api.ErrQuant} {
		t.Errorf("with a quantifier far below: %s", got)
	}
}

// Formulas as deep as may be, and as wide.
func TestR1DeepAndWide(t *testing.T) {
	a := arena.New(nil)
	id := laid(a.Join(api.And, x(-1, 0)(a), less(0, p(4, 1))(a), div(3, 1, p(0, 1))(a)))
	for i := range 498 {
		id = laid(a.Join(api.Or-i%2, id, less(0, p(5+i, 1))(a)))
	}
	was := a.Len()
	got := soon(t, a, id, 0)
	got.fine(t, "what is deep")
	// Low is all of it but for one atom, High comes to the first one of the others.
	if len(got.lower) != 0 || !areTerms(got.upper, terms(sum(0))) || !isInt(got.delta, n(3)) || a.Len() <= was+498 {
		t.Errorf("what is deep: %s, %d made", got, a.Len()-was)
	}
	for kind := api.And; kind <= api.Or; kind++ {
		a = arena.New(nil)
		var ids []int
		for i := range 996 {
			ids = append(ids, less(i*7%11, p(0, []int{1, -1}[i%2]), p(1+i*7%13, 1), p(20+i, 1))(a), less(0, p(2000+i, 1))(a))
		}
		id = laid(a.Join(kind, ids...))
		was := a.Len()
		got := soon(t, a, id, 0)
		got.fine(t, "what is wide")
		if len(got.lower) != 498 || len(got.upper) != 498 || got.low+got.high != []int{0, 2}[kind-api.And] || a.Len() != was {
			t.Errorf("what is wide: %d lower ones, %d upper ones, %d, %d, %d made", len(got.lower), len(got.upper), got.low, got.high, a.Len()-was)
		}
		if !slices.IsSortedFunc(got.lower, slowOrder) || !slices.IsSortedFunc(got.upper, slowOrder) {
			t.Error("what is wide: in no order")
		}
	}
	// Terms of very many parts.
	a = arena.New(nil)
	parts, want := []api.Part{p(0, -1)}, api.Term{K: n(3)}
	for i := range 20000 {
		parts = append(parts, p(1+i, 2+i%7))
		want.Parts = append(want.Parts, p(1+i, 2+i%7))
	}
	id = laid(a.Join(api.Or, less(3, parts...)(a), less(4, parts...)(a), div(1000, 5, parts...)(a)))
	got = soon(t, a, id, 0)
	if len(got.lower) > 0 || len(got.upper) != 2 || tellTerm(got.upper[0]) != tellTerm(want) || !isInt(got.delta, n(1000)) || got.low != 1 || got.es != [4]api.Errno{} {
		t.Errorf("a long term: %s", short(got.String()))
	}
}

// Very many great divisors that have nothing in common: Delta has thousands of limbs then.
func TestR1GreatDelta(t *testing.T) {
	const limbs, many = 8, 400
	a := arena.New(nil)
	var ids []int
	for i := range many {
		d := widest(limbs)
		d.Mag[0] -= uint32(2 * i)
		ids = append(ids, bigDiv(d, n(0), p(0, 1))(a))
	}
	id := laid(a.Join(api.And, ids...))
	was := tellArena(a)
	got := soon(t, a, id, 0)
	got.fine(t, "great divisors")
	if zint.Limbs(got.delta) < limbs*many/2 || got.low != id || got.high != id || tellArena(a) != was {
		t.Errorf("%d limbs; %d, %d", zint.Limbs(got.delta), got.low, got.high)
	}
}

// Beside an error all else is zero (R2); but for what a run has made, nothing has changed.
func TestR2BesideErrors(t *testing.T) {
	d := &dice{state: 154}
	refused := map[api.Errno]int{}
	for range drawn {
		a := grown(t, d, 8+d.roll(40), 1+d.roll(2))
		for range 6 {
			q, was := d.asking(a), tellArena(a)
			lower, upper, e := limit.Bounds(a, q.id, q.v)
			delta, e2 := limit.Delta(a, q.id, q.v)
			if e != api.OK && len(lower)+len(upper) > 0 || e2 != api.OK && (delta.Neg || len(delta.Mag) > 0) || tellArena(a) != was {
				t.Fatalf("%s: %s, %s, %v; %s, %v", q, tellTerms(lower), tellTerms(upper), e, tellInt(delta), e2)
			}
			refused[e]++
			for _, call := range []far{low(), high()} {
				was := tellArena(a)
				got, e := call.do(a, q.id, q.v)
				changes := e == api.OK || e == api.ErrNodes || e == api.ErrLimbs
				if e != api.OK && got != 0 || !changes && tellArena(a) != was {
					t.Fatalf("%s %s: %d, %v", call.name, q, got, e)
				}
				refused[e]++
			}
		}
	}
	if min(refused[api.ErrNode], refused[api.ErrQuant], refused[api.ErrArg]) < 50 || refused[api.ErrNodes] == 0 {
		t.Errorf("refused: %v", refused)
	}
}

// spoil overwrites a number, its spare room too.
func spoil(a api.Int) {
	for i := range a.Mag[:cap(a.Mag)] {
		a.Mag[:cap(a.Mag)][i] = 55
	}
}

func spoilTerm(t api.Term) {
	spoil(t.K)
	for i := range t.Parts[:cap(t.Parts)] {
		q := &t.Parts[:cap(t.Parts)][i]
		spoil(q.C)
		*q = p(55, 55)
	}
}

// spoilTerms overwrites a list of terms, their spare room too.
func spoilTerms(l []api.Term) {
	for i := range l[:cap(l)] {
		t := &l[:cap(l)][i]
		spoilTerm(*t)
		*t = sum(55, p(55, 55))
	}
}

// What is answered is new memory (R3): its owner may overwrite it, and neither the arena nor another answer changes. What
// is there stays as it is; the same call again answers the same, and makes nothing.
func TestR3Answers(t *testing.T) {
	d := &dice{state: 155}
	several, turned := 0, 0
	for range drawn {
		a := grown(t, d, 2000, 8)
		was := a.Len()
		ahead := tellNodes(a, was)
		q := d.asking(a)
		first := ask(a, q)
		if tellNodes(a, was) != ahead {
			t.Fatalf("%s changed what was there:\n%s\nwas\n%s", q, tellNodes(a, was), ahead)
		}
		wanted, behind := first.String(), tellArena(a)
		second := ask(a, q)
		if second.String() != wanted || tellArena(a) != behind {
			t.Fatalf("%s: %s; then %s", q, wanted, second)
		}
		spoilTerms(first.lower)
		spoil(first.delta)
		if tellTerms(first.upper) != tellTerms(second.upper) {
			t.Fatalf("%s: upper ones share memory with lower ones: %s, want %s", q, tellTerms(first.upper), tellTerms(second.upper))
		}
		spoilTerms(first.upper)
		if second.String() != wanted || tellArena(a) != behind || ask(a, q).String() != wanted {
			t.Fatalf("%s: an answer is kept: %s, want %s", q, second, wanted)
		}
		if len(second.lower) > 1 && len(second.upper) > 1 {
			several++
		}
		if second.es[2] == api.OK && second.low != q.id && second.low > 1 {
			turned++
		}
	}
	if several < drawn/100 || turned < drawn/10 {
		t.Errorf("%d with several bounds, %d turned", several, turned)
	}
}

// Each bound has memory of its own, spare room too: no two of one answer share any.
func TestR3EachBoundAlone(t *testing.T) {
	a := arena.New(nil)
	id := or(x(1, 0), x(1, 5), xy(1, 2, 3), xy(1, -2, 3), less(0, p(0, 1), p(1, 1), p(2, 3)), bigLess(wide(3), p(0, 1)), x(-1, 0), x(-1, 5), xy(-1, 2, 3), xy(-1, -2, 3), less(0, p(0, -1), p(1, 1), p(2, 3)), bigLess(wide(3), p(0, -1)))(a)
	lower, upper, e := limit.Bounds(a, id, 0)
	bounds := slices.Concat(lower, upper)
	if e != api.OK || len(bounds) != 12 {
		t.Fatalf("%s, %v", tellTerms(bounds), e)
	}
	was := tellNodes(a, a.Len())
	for i := range bounds {
		left := tellTerms(bounds[i+1:])
		spoilTerm(bounds[i])
		if tellTerms(bounds[i+1:]) != left {
			t.Errorf("bound %d shares memory with one behind it", i)
		}
	}
	if tellNodes(a, a.Len()) != was {
		t.Errorf("the nodes have changed:\n%s\nwas\n%s", tellNodes(a, a.Len()), was)
	}
}

// The Delta of a single divisor, and the Delta 1, share nothing with the node or with the next one.
func TestR3DeltaAlone(t *testing.T) {
	a := arena.New(nil)
	ids := layAll(a, of(bigDiv(wide(3), n(1), p(0, 1)), x(1, 0)))
	was := tellNodes(a, a.Len())
	for range 3 {
		for i, want := range []api.Int{wide(3), n(1)} {
			d, e := limit.Delta(a, ids[i], 0)
			if !isInt(d, want) || e != api.OK {
				t.Errorf("%s, %v, want %s", tellInt(d), e, tellInt(want))
			}
			spoil(d)
		}
	}
	if tellNodes(a, a.Len()) != was {
		t.Errorf("the nodes have changed:\n%s\nwas\n%s", tellNodes(a, a.Len()), was)
	}
}

// No answer hangs on what runs beside it, or ran ahead with another arena (R4).
func TestR4WhateverElseRuns(t *testing.T) {
	const hands = 8
	row := func() string {
		d := &dice{state: 156}
		var b strings.Builder
		for range 60 {
			a := grown(t, d, 2000, 8)
			for range 6 {
				q := d.asking(a)
				b.WriteString(q.String() + ": " + ask(a, q).String() + "\n")
			}
			b.WriteString(tellArena(a))
		}
		return b.String()
	}
	wanted := row()
	var group sync.WaitGroup
	var got [hands]string
	for hand := range hands {
		group.Go(func() { got[hand] = row() })
	}
	group.Wait()
	for hand := range hands {
		if got[hand] != wanted {
			t.Fatal("answers differ where others run")
		}
	}
}
