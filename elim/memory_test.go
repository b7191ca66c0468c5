package elim_test

import (
	"slices"
	"strings"
	"sync"
	"testing"
	"time"

	"riddle/api"
	"riddle/arena"
	"riddle/zint"
)

// soon fails unless a call is done in some seconds: what goes every way down, or to the end of any period, would go on
// for ever.
func soon(t *testing.T, a *arena.Arena, q asking) answer {
	t.Helper()
	done := make(chan answer, 1)
	go func() { done <- q.ask(a) }()
	select {
	case s := <-done:
		return s
	case <-time.After(60 * time.Second):
		t.Fatalf("%s: doesn't end", q)
	}
	return answer{}
}

// ladder is a formula with more ways down than could be gone: each rung hangs at the two above it, and has an atom of its
// own, so that no two of them come to the same.
func ladder(a *arena.Arena, first, last, rungs int, own func(rung int) form) int {
	for i := range rungs {
		first, last = last, laid(a.Join(api.And+i%2, first, last, own(i)(a)))
	}
	return last
}

// Of nodes that are reached on more ways than could be gone each is gone through once.
func TestR1ManyWays(t *testing.T) {
	rung := func(rung int) form { return less(rung, p(20+rung, 1)) }
	for _, c := range []struct {
		first, last form
		v           int
		want        api.Errno
	}{
		{xy(1, 1, 0), xy(-1, 1, 0), 0, api.OK}, {xy(3, 1, 0), xy(-2, 1, 0), 0, api.OK}, {xy(1, 1, 0), xy(-1, 1, 0), 9999, api.OK}, {div(2, 0, p(0, 1), p(1, 1)), xy(-1, 1, 0), 0, api.OK},
		{some(0, x(1, 0)), y(1, 0), 0, api.ErrQuant},
	} {
		for _, one := range calls() {
			a := arena.New(nil)
			q := asking{one, ladder(a, c.first(a), c.last(a), 80, rung), c.v}
			if got := soon(t, a, q); got.e != c.want {
				t.Errorf("%s: %s", q, got)
			}
		}
	}
}

// Formulas that are deep, and wide: they are answered, or refused where the meter is over.
func TestR1DeepAndWide(t *testing.T) {
	for _, c := range calls() {
		a := arena.New(nil)
		id := laid(a.Join(api.And, xy(-1, 1, 0)(a), xy(1, 1, 0)(a), div(3, 1, p(0, 1))(a)))
		for i := range 150 {
			id = laid(a.Join(api.Or-i%2, id, less(0, p(5+i, 1))(a)))
		}
		if got := soon(t, a, asking{c, id, 0}); got.e != api.OK || got.step.Points != 4 {
			t.Errorf("what is deep, %s: %s", c.name, got)
		}
	}
	// Many bounds that are numbers, so that each instance is a constant, and nothing is made for it: of the two numbers
	// behind each bound 7 divides neither.
	a := arena.New(nil)
	var ids []int
	for i := range 150 {
		ids = append(ids, and(x(1, -10*i), x(-1, 10*i+3), div(7, -10*i, p(0, 1)))(a))
	}
	id := laid(a.Join(api.Or, ids...))
	was := a.Len()
	got := soon(t, a, asking{someOf(), id, 0})
	if want := (answer{0, api.Step{L: n(1), Delta: n(7), Bounds: 150, Points: 1051}, api.OK}); got.String() != want.String() || a.Len() != was {
		t.Errorf("many bounds: %s, want %s, %d made", got, want, a.Len()-was)
	}
	// Terms of very many parts.
	a = arena.New(nil)
	parts, falling := []api.Part{p(0, -1)}, []api.Part{p(0, 1)}
	for i := range 5000 {
		parts, falling = append(parts, p(1+i, 2+i%7)), append(falling, p(1+i, 3+i%5))
	}
	got = soon(t, a, asking{someOf(), and(less(3, parts...), less(4, falling...))(a), 0})
	if got.e != api.OK || got.step.Points != 2 || len(whole(a, got.id).T.Parts) != 5000 {
		t.Errorf("long terms: %s", got)
	}
}

// A period beyond all points: the meter ends it, however long it is, also where nothing is made for a point.
func TestR1GreatPeriods(t *testing.T) {
	for _, d := range []api.Int{n(1000003), widest(1, 0), widest(8, 0)} {
		a := arena.New(nil)
		open := bigDiv(d, n(0), p(0, 1), p(1, 1))(a)
		if got := soon(t, a, asking{someOf(), open, 0}); got.String() != (answer{e: api.ErrNodes}).String() || a.Meter().Spent() != api.MaxNodes || a.Meter().Over() != api.ErrNodes {
			t.Errorf("%s: %s", tellInt(d), got)
		}
		// Each point but the last one had its node: 1000 and 999, and the one that was there.
		if a.Len() != 2+1+999 {
			t.Errorf("%s: %d nodes", tellInt(d), a.Len())
		}
		a = arena.New(nil)
		closed := and(x(1, 0), x(-1, 9), bigDiv(d, n(0), p(0, 1)))(a)
		was := a.Len()
		if got := soon(t, a, asking{someOf(), closed, 0}); got.String() != (answer{e: api.ErrNodes}).String() || a.Len() != was || a.Meter().Spent() != api.MaxNodes {
			t.Errorf("%s: %s", tellInt(d), got)
		}
		// Where the first points tell all of it, the period may be as long as it likes.
		a = arena.New(nil)
		got := soon(t, a, asking{someOf(), or(x(-1, 0), bigDiv(d, n(0), p(0, 1)))(a), 0})
		if want := (answer{1, api.Step{L: n(1), Delta: d, Points: 1}, api.OK}); got.String() != want.String() {
			t.Errorf("%s: %s, want %s", tellInt(d), got, want)
		}
	}
	// Very many great divisors that have nothing in common: Delta has thousands of limbs then.
	a := arena.New(nil)
	ids := []int{x(-1, 0)(a)}
	for i := range 300 {
		ids = append(ids, bigDiv(widest(8, 2*i), n(0), p(0, 1))(a))
	}
	got := soon(t, a, asking{someOf(), laid(a.Join(api.Or, ids...)), 0})
	if got.id != 1 || got.e != api.OK || zint.Limbs(got.step.Delta) < 1000 || got.step.Points != 1 {
		t.Errorf("great divisors: %d, %v, %d limbs", got.id, got.e, zint.Limbs(got.step.Delta))
	}
	if got := soon(t, a, asking{someOf(), laid(a.Join(api.And, ids[1:]...)), 0}); got.String() != (answer{e: api.ErrNodes}).String() {
		t.Errorf("great divisors together: %s", short(got.String()))
	}
}

// Beside an error all else is zero (R2); but for what a run has made and spent, nothing has changed.
func TestR2BesideErrors(t *testing.T) {
	d := &dice{state: 157}
	refused := map[api.Errno]int{}
	for range drawn {
		a := grown(t, d, 8+d.roll(60), 1+d.roll(2))
		for range 4 {
			q, was, nodes := d.asking(a), tellArena(a), a.Len()
			ahead := tellNodes(a, nodes)
			got := q.ask(a)
			refused[got.e]++
			if got.e == api.OK {
				continue
			}
			changes := got.e == api.ErrNodes || got.e == api.ErrLimbs
			if got.String() != (answer{e: got.e}).String() || !changes && tellArena(a) != was || tellNodes(a, nodes) != ahead {
				t.Fatalf("%s: %s, in\n%s", q, got, short(tellArena(a)))
			}
		}
	}
	if slices.Min([]int{refused[api.ErrNode], refused[api.ErrQuant], refused[api.ErrNodes], refused[api.ErrLimbs]}) < drawn/50 || refused[api.ErrArg] > 0 {
		t.Errorf("refused: %v", refused)
	}
}

// spoil overwrites a number, its spare room too.
func spoil(a api.Int) {
	for i := range a.Mag[:cap(a.Mag)] {
		a.Mag[:cap(a.Mag)][i] = 55
	}
}

// What is answered is new memory (R3): its owner may overwrite it, and neither the arena nor another answer changes, nor
// the other number of the Step. What is there stays as it is; the same call again answers the same, and makes nothing.
func TestR3Answers(t *testing.T) {
	d := &dice{state: 158}
	great := 0
	for range drawn {
		a := grown(t, d, api.MaxNodes, 8)
		was := a.Len()
		ahead := tellNodes(a, was)
		q := d.asking(a)
		first := q.ask(a)
		if tellNodes(a, was) != ahead {
			t.Fatalf("%s changed what was there:\n%s\nwas\n%s", q, tellNodes(a, was), ahead)
		}
		if first.e != api.OK || a.Meter().Spent()+2*first.step.Points > api.MaxNodes {
			continue
		}
		wanted, nodes := first.String(), tellNodes(a, a.Len())
		second := q.ask(a)
		if second.String() != wanted || tellNodes(a, a.Len()) != nodes {
			t.Fatalf("%s: %s; then %s", q, wanted, second)
		}
		spoil(first.step.L)
		if tellInt(first.step.Delta) != tellInt(second.step.Delta) {
			t.Fatalf("%s: L and Delta share memory", q)
		}
		spoil(first.step.Delta)
		if second.String() != wanted || tellNodes(a, a.Len()) != nodes || q.ask(a).String() != wanted {
			t.Fatalf("%s: an answer is kept: %s, want %s", q, second, wanted)
		}
		if zint.Cmp(second.step.L, n(1)) > 0 || zint.Cmp(second.step.Delta, n(1)) > 0 {
			great++
		}
	}
	if great < drawn/10 {
		t.Errorf("%d with an L or a Delta above 1", great)
	}
}

// The L of a single coefficient and the Delta of a single divisor share nothing with the nodes.
func TestR3NumbersAlone(t *testing.T) {
	k := widest(3, 0)
	for _, f := range []form{less(0, big(0, k), p(1, 1)), or(x(-1, 0), bigDiv(k, n(1), p(0, 1))), or(less(0, big(0, opposite(k)), p(1, 1)), bigDiv(k, n(1), p(0, 1)))} {
		a := arena.New(nil)
		id := f(a)
		ahead := tellNodes(a, a.Len())
		for range 3 {
			for _, c := range calls() {
				_, step, _ := c.do(a, id, 0)
				spoil(step.L)
				spoil(step.Delta)
			}
		}
		if tellNodes(a, id+1) != ahead {
			t.Errorf("the nodes have changed:\n%s\nwas\n%s", tellNodes(a, id+1), ahead)
		}
		twin := arena.New(nil)
		f(twin)
		for range 3 {
			for _, c := range calls() {
				c.do(twin, id, 0)
			}
		}
		if tellArena(a) != tellArena(twin) {
			t.Errorf("%s\nwithout spoiling\n%s", tellArena(a), tellArena(twin))
		}
	}
}

// No answer hangs on what runs beside it, or ran ahead with another arena (R4).
func TestR4WhateverElseRuns(t *testing.T) {
	const hands = 8
	row := func() string {
		d := &dice{state: 159}
		var b strings.Builder
		for range 60 {
			a := grown(t, d, api.MaxNodes, 8)
			for range 4 {
				q := d.asking(a)
				b.WriteString(q.String() + ": " + q.ask(a).String() + "\n")
			}
			b.WriteString(tellArena(a))
		}
		return b.String()
	}
	wanted := row()
	var group sync.WaitGroup
	var got [hands]string
	for hand := range hands {
		group.Go(func() { got[hand] = row() })
	}
	group.Wait()
	for hand := range hands {
		if got[hand] != wanted {
			t.Fatal("answers differ where others run")
		}
	}
}
