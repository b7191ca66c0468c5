package simp_test

import (
	"slices"
	"strconv"
	"strings"
	"sync"
	"testing"
	"time"

	"riddle/api"
	"riddle/arena"
	"riddle/simp"
)

// With a nil arena each call is ErrArg (R1), whatever it is handed.
func TestR1NilArena(t *testing.T) {
	for _, ids := range [][]int{nil, {0}, {1}, {0, 1}, {-1}, {2, 3}, {most}, {least, 0}} {
		for _, name := range names() {
			if len(ids) == 0 && name != "And" && name != "Or" {
				continue
			}
			if got, e := (call{name, ids}).do(nil); got != 0 || e != api.ErrArg {
				t.Errorf("%s%s: %d, %v", name, tellList(ids), got, e)
			}
		}
	}
}

// soon fails unless a call is done in a few seconds: one that goes every way down would go on for ever.
func soon(t *testing.T, a *arena.Arena, c call) int {
	t.Helper()
	answer := make(chan int, 1)
	go func() {
		got, e := c.do(a)
		if e != api.OK {
			got = -int(e)
		}
		answer <- got
	}()
	select {
	case got := <-answer:
		return got
	case <-time.After(20 * time.Second):
		t.Fatalf("%s doesn't end", short(c.String()))
	}
	return 0
}

// Of nodes that are reached on more ways than could be gone each is gone through once.
func TestR1ManyWays(t *testing.T) {
	for _, kind := range []int{api.And, api.Or} {
		a := arena.New(nil)
		one, two := x(1, 0)(a), y(1, 0)(a)
		last, first := two, one
		for i := range 300 {
			other := less(0, p(2+i, 1))(a)
			first, last = last, laid(a.Join(kind, first, last, other))
		}
		flat := soon(t, a, call{map[int]string{api.And: "And", api.Or: "Or"}[kind], []int{last}})
		if kids := whole(a, flat).Kids; len(kids) != 302 {
			t.Errorf("%d kids", len(kids))
		}
		if again := soon(t, a, call{"Again", []int{flat}}); again != flat {
			t.Errorf("Again of what is flat: %d, want %d", again, flat)
		}
		if again := soon(t, a, call{"Again", []int{last}}); again != flat {
			t.Errorf("Again: %d, want %d", again, flat)
		}
		if back := soon(t, a, call{"Negate", []int{last}}); len(whole(a, back).Kids) != 302 {
			t.Errorf("Negate: %s", short(tellNode(whole(a, back))))
		}
	}
}

// Likewise, below quantifiers, where nothing is spread and nothing is left out.
func TestR1ManyWaysBelowQuantifiers(t *testing.T) {
	a := arena.New(nil)
	first, last := x(1, 0)(a), y(1, 0)(a)
	for i := range 400 {
		first, last = last, laid(a.Bind(api.Some+i%2, i%5, laid(a.Join(api.And+i%3%2, first, last))))
	}
	was := a.Len()
	if got := soon(t, a, call{"Again", []int{last}}); got != last || a.Len() != was {
		t.Errorf("Again: %d, want %d; %d made", got, last, a.Len()-was)
	}
	got := soon(t, a, call{"Negate", []int{last}})
	if a.Len() != was+802 || got != a.Len()-1 {
		t.Errorf("Negate: %d, %d made", got, a.Len()-was)
	}
	// The opposite has its opposites by now.
	if back := soon(t, a, call{"Negate", []int{got}}); back != last || a.Len() != was+802 {
		t.Errorf("Negate of that: %d, want %d; %d made", back, last, a.Len()-was-802)
	}
}

// Formulas as deep as may be, and as wide.
func TestR1DeepAndWide(t *testing.T) {
	a := arena.New(nil)
	last := x(1, 0)(a)
	for i := range 999 {
		last = laid(a.Bind(api.Some+i%2, i, last))
	}
	if got := soon(t, a, call{"Negate", []int{last}}); got != 2001 || a.Meter().Spent() != 2000 {
		t.Errorf("Negate of what is deep: %d, %d counted", got, a.Meter().Spent())
	}
	for _, c := range []int{1, -1} {
		a = arena.New(nil)
		var ids []int
		for i := range 1990 {
			ids = append(ids, less(1-i, p(i%995, c*(1-2*(i/995))))(a))
		}
		if got := soon(t, a, call{"And", ids}); got != 0 {
			t.Errorf("And of many: %d", got)
		}
		if got := soon(t, a, call{"Or", ids}); got != 1992 || len(whole(a, got).Kids) != 1990 {
			t.Errorf("Or of many: %d", got)
		}
		if got := soon(t, a, call{"And", slices.Repeat(ids[:995], 300)}); got != 1993 || len(whole(a, got).Kids) != 995 {
			t.Errorf("And of many numbers: %d", got)
		}
	}
}

// Terms of many parts, which differ in the last one alone.
func TestR1LongTerms(t *testing.T) {
	a := arena.New(nil)
	var ids []int
	for i := range 40 {
		var parts, opposites []api.Part
		for v := range 2000 {
			parts, opposites = append(parts, p(v, 1)), append(opposites, p(v, -1))
		}
		parts[1999], opposites[1999] = p(1999, 2+i/2), p(1999, -2-i/2)
		ids = append(ids, less(10+i%2, parts...)(a), less(10+i%2, opposites...)(a), div(7, i%7, parts...)(a))
	}
	got := soon(t, a, call{"And", ids})
	if kids := whole(a, got).Kids; len(kids) < 40 || len(kids) > 80 {
		t.Errorf("And of long terms: %d kids", len(kids))
	}
	if got := soon(t, a, call{"Or", ids}); got != 1 {
		t.Errorf("Or of long terms: %d", got)
	}
}

// Beside an error the number is 0 (R2); but for an error of the meter nothing has changed.
func TestR2BesideErrors(t *testing.T) {
	d := &dice{state: 98}
	refused := map[api.Errno]int{}
	for range drawn {
		a := grown(t, d, 60, 1+d.roll(60), 1+d.roll(2))
		for range 6 {
			c, was := d.call(a.Len()), tellArena(a)
			got, e := c.do(a)
			if e != api.OK && got != 0 || e == api.ErrNode && tellArena(a) != was {
				t.Fatalf("%s: %d, %v", c, got, e)
			}
			refused[e]++
		}
	}
	if min(refused[api.ErrNode], refused[api.ErrNodes], refused[api.ErrLimbs]) < 10 {
		t.Errorf("refused: %v", refused)
	}
}

// The list of ids stays as it is, its spare room too (R3); what becomes of it afterwards is nothing to the arena.
func TestR3IdsStay(t *testing.T) {
	d := &dice{state: 99}
	for range drawn {
		a := grown(t, d, 60, 2000, 8)
		for range 4 {
			c := d.call(a.Len())
			given := append(slices.Clone(c.ids), 9977, 9977, 9977, 9977, 9977, 9977, 9977, 9977)[:len(c.ids)]
			got, e := call{c.name, given}.do(a)
			if !slices.Equal(given, c.ids) || slices.ContainsFunc(given[len(given):len(given)+8], func(id int) bool { return id != 9977 }) {
				t.Fatalf("%s changed what it was handed: %s", c, tellList(given[:len(given)+8]))
			}
			behind := tellArena(a)
			for i := range given {
				given[i] = 1 - i%2
			}
			if again, e2 := c.do(a); again != got || e2 != e || tellArena(a) != behind {
				t.Fatalf("%s: %d, %v; then %d, %v", c, got, e, again, e2)
			}
		}
	}
}

// The kids that a node was told with may be handed in, or a piece of them.
func TestR3KidsHandedIn(t *testing.T) {
	a := arena.New(nil)
	id := and(x(1, 0), y(1, 0), div(2, 0, p(0, 1)), or(x(1, 0), y(1, 0)))(a)
	kids := whole(a, id).Kids
	if got, e := simp.And(a, kids[:3]...); e != api.OK || got != and(x(1, 0), y(1, 0), div(2, 0, p(0, 1)))(a) {
		t.Errorf("And of kids: %d, %v", got, e)
	}
	if got, e := simp.Or(a, kids...); e != api.OK || got != or(x(1, 0), y(1, 0), div(2, 0, p(0, 1)))(a) {
		t.Errorf("Or of kids: %d, %v", got, e)
	}
	if !slices.Equal(kids, whole(a, id).Kids) {
		t.Errorf("the kids: %v", kids)
	}
}

// No answer hangs on what runs beside it, or ran ahead with another arena (R4).
func TestR4WhateverElseRuns(t *testing.T) {
	const hands = 8
	row := func() string {
		d := &dice{state: 100}
		var b strings.Builder
		for range 40 {
			a := grown(t, d, 60, 2000, 8)
			for range 10 {
				c := d.call(a.Len())
				got, e := c.do(a)
				b.WriteString(c.String() + ": " + strconv.Itoa(got) + ", " + e.Error() + "\n")
			}
			b.WriteString(tellArena(a))
		}
		return b.String()
	}
	wanted := row()
	var group sync.WaitGroup
	var got [hands]string
	for hand := range hands {
		group.Go(func() { got[hand] = row() })
	}
	group.Wait()
	for hand := range hands {
		if got[hand] != wanted {
			t.Fatal("answers differ where others run")
		}
	}
}
