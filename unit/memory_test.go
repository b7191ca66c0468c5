package unit_test

import (
	"strconv"
	"strings"
	"sync"
	"testing"
	"time"

	"riddle/api"
	"riddle/arena"
	"riddle/simp"
	"riddle/unit"
	"riddle/zint"
)

// answers are what both calls say.
type answers struct {
	lcm, l       api.Int
	id           int
	lcmE, e      api.Errno
	nodes, spent int
}

// soon fails unless both calls are done in a few seconds: what goes every way down would go on for ever.
func soon(t *testing.T, a *arena.Arena, id, v int) answers {
	t.Helper()
	done := make(chan answers, 1)
	go func() {
		var s answers
		s.lcm, s.lcmE = unit.Lcm(a, id, v)
		s.id, s.l, s.e = unit.Unit(a, id, v)
		s.nodes, s.spent = a.Len(), a.Meter().Spent()
		done <- s
	}()
	select {
	case s := <-done:
		return s
	case <-time.After(60 * time.Second):
		t.Fatalf("of %d and v%d: doesn't end", id, v)
	}
	return answers{}
}

// ladder is a formula with more ways down than could be gone: each rung hangs at the two above it, and has an atom of its
// own, so that no two of them come to the same.
func ladder(a *arena.Arena, first, last, rungs int, own func(rung int) form) int {
	for i := range rungs {
		first, last = last, laid(a.Join(api.And+i%2, first, last, own(i)(a)))
	}
	return last
}

// Of nodes that are reached on more ways than could be gone each is gone through once.
func TestR1ManyWays(t *testing.T) {
	a := arena.New(nil)
	id := ladder(a, xy(2, 1, 0)(a), xy(-3, 1, 0)(a), 200, func(rung int) form { return less(rung, p(20+rung, 1), p(0, 1)) })
	was := a.Len()
	got := soon(t, a, id, 0)
	// All atoms and all rungs, the Div, and the And of it and the last rung.
	if got.e != api.OK || got.lcmE != api.OK || !isInt(got.lcm, n(6)) || !isInt(got.l, n(6)) || got.id != got.nodes-1 || got.nodes != was+202+200+2 || got.spent != got.nodes-2 {
		t.Errorf("%d, %s, %v, %d made", got.id, tellInt(got.l), got.e, got.nodes-was)
	}
	same := laid(simp.Again(a, id))
	was = a.Len()
	if got := soon(t, a, id, 999); got.e != api.OK || got.id != same || !isInt(got.l, n(1)) || got.nodes != was {
		t.Errorf("without the variable: %d, %s, %v, %d made, want %d", got.id, tellInt(got.l), got.e, got.nodes-was, same)
	}
	bound := laid(a.Bind(api.Some, 0, id))
	id = ladder(a, bound, xy(2, 1, 0)(a), 100, func(rung int) form { return less(rung, p(1020+rung, 1), p(0, 1)) })
	was = a.Len()
	if got := soon(t, a, id, 0); got.e != api.ErrQuant || got.lcmE != api.ErrQuant || got.nodes != was {
		t.Errorf("with a quantifier far below: %v, %v, %d made", got.lcmE, got.e, got.nodes-was)
	}
}

// Formulas as deep as may be, and as wide.
func TestR1DeepAndWide(t *testing.T) {
	a := arena.New(nil)
	id := xy(2, 1, 0)(a)
	for i := range 498 {
		id = laid(a.Join(api.And+i%2, id, less(0, p(5+i, 1))(a)))
	}
	was := a.Len()
	if got := soon(t, a, id, 0); got.e != api.OK || !isInt(got.l, n(2)) || got.nodes != was+1+498+2 {
		t.Errorf("what is deep: %d, %s, %v, %d made", got.id, tellInt(got.l), got.e, got.nodes-was)
	}
	for kind := api.And; kind <= api.Or; kind++ {
		a = arena.New(nil)
		var ids []int
		for i := range 990 {
			ids = append(ids, less(0, p(0, []int{1, -2, 3, -6}[i%4]), p(1+i, 1))(a))
		}
		id = laid(a.Join(kind, ids...))
		was := a.Len()
		if got := soon(t, a, id, 0); got.e != api.OK || !isInt(got.l, n(6)) || got.nodes != was+990+3 {
			t.Errorf("what is wide: %d, %s, %v, %d made", got.id, tellInt(got.l), got.e, got.nodes-was)
		}
	}
	// A term of very many parts.
	a = arena.New(nil)
	var parts []api.Part
	for i := range 20000 {
		parts = append(parts, p(i, 2+i%7))
	}
	id = laid(a.Join(api.Or, less(3, parts...)(a), xy(5, 1, 0)(a)))
	got := soon(t, a, id, 0)
	if came := whole(a, got.id); got.e != api.OK || !isInt(got.l, n(10)) || len(came.Kids) != 2 {
		t.Errorf("a long term: %d, %s, %v", got.id, tellInt(got.l), got.e)
	}
}

// Very many great coefficients that have nothing in common: L has thousands of limbs then.
func TestR1GreatL(t *testing.T) {
	const limbs, many = 8, 400
	a := arena.New(nil)
	var ids []int
	for i := range many {
		c := widest(limbs)
		c.Mag[0] -= uint32(2 * i)
		ids = append(ids, bigLess(n(0), big(0, c), p(1, 1))(a))
	}
	id := laid(a.Join(api.And, ids...))
	was := tellArena(a)
	got := soon(t, a, id, 0)
	if got.lcmE != api.OK || zint.Limbs(got.lcm) < limbs*many/2 || got.e != api.ErrLimbs || got.id != 0 || !isInt(got.l, n(0)) || a.Meter().Over() != api.ErrLimbs {
		t.Errorf("%d limbs, %v; %d, %v", zint.Limbs(got.lcm), got.lcmE, got.id, got.e)
	}
	if now := tellArena(a); now[:strings.LastIndexByte(now, '\n')] != was[:strings.LastIndexByte(was, '\n')] {
		t.Error("something was made")
	}
}

// Beside an error the numbers are 0 (R2); but for what a run has made, nothing has changed.
func TestR2BesideErrors(t *testing.T) {
	d := &dice{state: 139}
	refused := map[api.Errno]int{}
	for range drawn {
		a := grown(t, d, 8+d.roll(40), 1+d.roll(2))
		for range 6 {
			q, was := d.asking(a), tellArena(a)
			if l, e := unit.Lcm(a, q.id, q.v); e != api.OK && !isInt(l, n(0)) || tellArena(a) != was {
				t.Fatalf("Lcm %s: %s, %v", q, tellInt(l), e)
			}
			got, l, e := unit.Unit(a, q.id, q.v)
			changes := e == api.OK || e == api.ErrNodes || e == api.ErrLimbs
			if e != api.OK && (got != 0 || l.Neg || len(l.Mag) > 0) || !changes && tellArena(a) != was {
				t.Fatalf("Unit %s: %d, %s, %v", q, got, tellInt(l), e)
			}
			refused[e]++
		}
	}
	if min(refused[api.ErrNode], refused[api.ErrQuant], refused[api.ErrNodes], refused[api.ErrLimbs]) < 50 {
		t.Errorf("refused: %v", refused)
	}
}

// spoil overwrites a number, its spare room too.
func spoil(a api.Int) {
	for i := range a.Mag[:cap(a.Mag)] {
		a.Mag[:cap(a.Mag)][i] = 55
	}
}

// What is answered is new memory (R3): its owner may overwrite it, and neither the arena nor another answer changes. What
// is there stays as it is; the same call again answers the same, and makes nothing.
func TestR3Answers(t *testing.T) {
	d := &dice{state: 140}
	above, same := 0, 0
	for range drawn {
		a := grown(t, d, 2000, 8)
		was := a.Len()
		ahead := tellNodes(a, was)
		q := d.asking(a)
		lcm, _ := unit.Lcm(a, q.id, q.v)
		got, l, e := unit.Unit(a, q.id, q.v)
		if tellNodes(a, was) != ahead {
			t.Fatalf("%s changed what was there:\n%s\nwas\n%s", q, tellNodes(a, was), ahead)
		}
		behind, text := tellArena(a), tellInt(l)
		spoil(lcm)
		if tellInt(l) != text || tellArena(a) != behind {
			t.Fatalf("%s: what Lcm answers is kept", q)
		}
		spoil(l)
		if tellArena(a) != behind {
			t.Fatalf("%s: what Unit answers is kept", q)
		}
		again, l2, e2 := unit.Unit(a, q.id, q.v)
		if again != got || tellInt(l2) != text || e2 != e || tellArena(a) != behind {
			t.Fatalf("%s: %d, %s, %v; then %d, %s, %v", q, got, text, e, again, tellInt(l2), e2)
		}
		if e == api.OK && text != tellInt(n(1)) {
			above++
		}
		if e == api.OK && got == q.id {
			same++
		}
	}
	if min(above, same) < drawn/8 {
		t.Errorf("%d with an L above 1, %d themselves", above, same)
	}
	// The L 1 is new each time, too.
	a := arena.New(nil)
	for range 3 {
		lcm, _ := unit.Lcm(a, 0, 0)
		_, l, _ := unit.Unit(a, 1, 0)
		if !isInt(lcm, n(1)) || !isInt(l, n(1)) {
			t.Errorf("%s, %s, want 1", tellInt(lcm), tellInt(l))
		}
		spoil(lcm)
		spoil(l)
	}
}

// The L of a single coefficient shares nothing with the node that has it.
func TestR3OneCoefficient(t *testing.T) {
	a := arena.New(nil)
	id := laid(a.Join(api.Or, bigLess(n(0), big(0, wide(3)), p(1, 1))(a), div(9, 1, p(1, 1))(a)))
	was := tellNodes(a, a.Len())
	nodes := a.Len()
	l, _ := unit.Lcm(a, id, 0)
	spoil(l)
	_, l, _ = unit.Unit(a, id, 0)
	spoil(l)
	if tellNodes(a, nodes) != was {
		t.Errorf("the nodes have changed:\n%s\nwas\n%s", tellNodes(a, nodes), was)
	}
	if l, e := unit.Lcm(a, id, 0); !isInt(l, wide(3)) || e != api.OK {
		t.Errorf("%s, %v", tellInt(l), e)
	}
}

// tellNodes tells the first nodes of an arena.
func tellNodes(a *arena.Arena, many int) string {
	var b strings.Builder
	for id := range many {
		b.WriteString(strconv.Itoa(id) + " " + tellNode(whole(a, id)) + "\n")
	}
	return b.String()
}

// No answer hangs on what runs beside it, or ran ahead with another arena (R4).
func TestR4WhateverElseRuns(t *testing.T) {
	const hands = 8
	row := func() string {
		d := &dice{state: 141}
		var b strings.Builder
		for range 60 {
			a := grown(t, d, 2000, 8)
			for range 6 {
				q := d.asking(a)
				lcm, lcmE := unit.Lcm(a, q.id, q.v)
				got, l, e := unit.Unit(a, q.id, q.v)
				b.WriteString(q.String() + ": " + tellInt(lcm) + ", " + lcmE.Error() + "; " + strconv.Itoa(got) + ", " + tellInt(l) + ", " + e.Error() + "\n")
			}
			b.WriteString(tellArena(a))
		}
		return b.String()
	}
	wanted := row()
	var group sync.WaitGroup
	var got [hands]string
	for hand := range hands {
		group.Go(func() { got[hand] = row() })
	}
	group.Wait()
	for hand := range hands {
		if got[hand] != wanted {
			t.Fatal("answers differ where others run")
		}
	}
}
