package drive_test

import (
	"slices"
	"strings"
	"sync"
	"testing"
	"time"

	"riddle/api"
	"riddle/arena"
	"riddle/zint"
)

// soon fails unless a call is done in some seconds: what goes every way down would go on for ever.
func soon(t *testing.T, a *arena.Arena, q asking) answer {
	t.Helper()
	done := make(chan answer, 1)
	go func() { done <- q.ask(a) }()
	select {
	case s := <-done:
		return s
	case <-time.After(60 * time.Second):
		t.Fatalf("%s: doesn't end", q)
	}
	return answer{}
}

// ladder is a formula with more ways down than could be gone: each rung hangs at the two above it, and has an atom of its
// own, so that no two of them come to the same.
func ladder(a *arena.Arena, first, last, rungs int, own func(rung int) form) int {
	for i := range rungs {
		first, last = last, laid(a.Join(api.And+i%2, first, last, own(i)(a)))
	}
	return last
}

// forked is a formula with two ways at each rung, on both of which an atom stands that is not the other way's.
func forked(a *arena.Arena, id, rungs int) int {
	for i := range rungs {
		left, right := laid(a.Join(api.And, id, less(i, p(20+2*i, 1))(a))), laid(a.Join(api.And, id, less(i, p(21+2*i, 1))(a)))
		id = laid(a.Join(api.Or, left, right))
	}
	return id
}

// Of nodes that are reached on more ways than could be gone Run goes through each once, and Some as far as the meter lets
// it.
func TestR1ManyWays(t *testing.T) {
	rung := func(rung int) form { return less(rung, p(20+rung, 1)) }
	for _, c := range []struct {
		q           call
		first, last form
		v           int
		want        api.Errno
	}{
		{someOf(), xy(1, 1, 0), xy(-1, 1, 0), 9999, api.OK}, {someOf(), xy(1, 1, 0), xy(-1, 1, 0), 0, api.OK}, {someOf(), some(0, x(1, 0)), y(1, 0), 0, api.ErrQuant},
		{runOf(), xy(1, 1, 0), xy(-1, 1, 0), 0, api.OK}, {runOf(), some(0, gap(0)), xy(-1, 1, 0), 0, api.OK}, {runOf(), all(0, x(1, 0)), some(1, gap(0)), 0, api.OK},
	} {
		a := arena.New(nil)
		q := asking{c.q, ladder(a, c.first(a), c.last(a), 80, rung), c.v}
		if got := soon(t, a, q); got.e != c.want {
			t.Errorf("%s: %s", q, got)
		}
		a = arena.New(nil)
		kind := api.Some
		id := ladder(a, c.first(a), c.last(a), 60, func(i int) form {
			kind = api.Some + api.All - kind
			return func(a *arena.Arena) int { return laid(a.Bind(kind, 20+i, rung(i)(a))) }
		})
		if got := soon(t, a, asking{runOf(), id, 0}); got.e != api.OK && got.e != api.ErrNodes {
			t.Errorf("quantifiers, %s: %s", q, got)
		}
	}
	// Each way has its step here, so that there are points for few of them.
	a := arena.New(nil)
	id := forked(a, x(1, 0)(a), 300)
	if got := soon(t, a, asking{someOf(), id, 0}); got.String() != (answer{e: api.ErrNodes}).String() {
		t.Errorf("with steps: %s", got)
	}
	a = arena.New(nil)
	if got := soon(t, a, asking{someOf(), forked(a, x(1, 0)(a), 7), 0}); got.e != api.OK || len(got.steps) != 1<<7 || got.points() != 1<<7 {
		t.Errorf("with steps: %s", short(got.String()))
	}
}

// Ways that end without a step are not counted by the meter: however many there are, the call ends, and so does what has
// steps beside them.
func TestR1ManyWaysWithoutSteps(t *testing.T) {
	idle := and(w(1, 0), x(1, 0), x(-1, 0))
	for _, c := range []struct {
		f     form
		rungs int
		want  int
	}{{idle, 7, 0}, {idle, 300, 0}, {or(idle, gap(0)), 6, 64}} {
		a := arena.New(nil)
		id := forked(a, c.f(a), c.rungs)
		got := soon(t, a, asking{someOf(), id, 0})
		if got.e != api.OK || len(got.steps) != c.want || c.want == 0 && got.id != 0 {
			t.Errorf("%d rungs: %s", c.rungs, short(got.String()))
		}
	}
	// What is left of it is no constant.
	a := arena.New(nil)
	id := forked(a, and(w(1, 0), and(y(1, 0), or(y(1, 0), x(1, 0))))(a), 200)
	was, spent := a.Len(), a.Meter().Spent()
	got := soon(t, a, asking{someOf(), id, 0})
	if got.e != api.OK || len(got.steps) != 0 || a.Meter().Spent()-spent != a.Len()-was || len(a.Free(got.id)) != 402 {
		t.Errorf("200 rungs: %s", short(got.String()))
	}
	nodes := tellArena(a)
	if again := soon(t, a, asking{someOf(), id, 0}); again.String() != got.String() || tellArena(a) != nodes {
		t.Errorf("200 rungs, again: %s", short(again.String()))
	}
}

// Formulas that are nested as deep as a meter lets them: quantifiers, Ands and Ors, both.
func TestR1Deep(t *testing.T) {
	for kind, want := range map[int]int{api.Some: 1, api.All: 0} {
		a := arena.New(nil)
		id := y(1, 0)(a)
		for i := range 1990 {
			id = laid(a.Bind(kind, 5+i, id))
		}
		if got := soon(t, a, asking{runOf(), id, 0}); got.String() != (answer{id: 2}).String() {
			t.Errorf("quantifiers: %s", got)
		}
		// The innermost one binds what is there, all others nothing.
		a = arena.New(nil)
		id = x(1, 0)(a)
		for range 1990 {
			id = laid(a.Bind(kind, 0, id))
		}
		if got := soon(t, a, asking{runOf(), id, 0}); got.e != api.OK || len(got.steps) != 1 || got.id != want {
			t.Errorf("quantifiers of one variable: %s", got)
		}
	}
	// Pairs of an And and an Or: what comes of the innermost one has to be joined as often.
	for _, c := range []struct {
		pairs, steps int
		want         api.Errno
	}{{380, 1, api.OK}, {600, 0, api.ErrNodes}} {
		a := arena.New(nil)
		id, one, other := or(gap(0), y(1, 0))(a), w(1, 0)(a), z(1, 0)(a)
		for i := range c.pairs {
			id = laid(a.Join(api.And, id, laid(a.Atom(api.Atom{Kind: api.Div, D: n(2 + i), T: api.Term{Parts: []api.Part{p(3, 1)}}}))))
			id = laid(a.Join(api.Or, id, one, other))
		}
		if got := soon(t, a, asking{someOf(), id, 0}); got.e != c.want || len(got.steps) != c.steps {
			t.Errorf("%d pairs: %s", c.pairs, short(got.String()))
		}
		got := soon(t, a, asking{runOf(), id, 0})
		if want := (answer{id: id}); c.want == api.OK && got.String() != want.String() {
			t.Errorf("%d pairs, Run: %s", c.pairs, short(got.String()))
		}
	}
	// Quantifiers between these: each one is gone by a point.
	a := arena.New(nil)
	id := x(1, 0)(a)
	for i := range 300 {
		id = laid(a.Bind(api.Some+i%2, i, laid(a.Join(api.And+i%2, id, less(0, p(i, 1), p(i+1, 1))(a)))))
	}
	if got := soon(t, a, asking{runOf(), id, 0}); got.e != api.OK || got.id > 2 && len(a.Free(got.id)) > 1 {
		t.Errorf("nested in one another: %s", short(got.String()))
	}
}

// Nodes with very many kids, terms with very many parts.
func TestR1Wide(t *testing.T) {
	a := arena.New(nil)
	var ids []int
	for i := range 700 {
		ids = append(ids, less(i, p(5+i, 1))(a))
	}
	with := xy(1, -1, 0)(a)
	if got := soon(t, a, asking{someOf(), laid(a.Join(api.And, append(ids, with)...)), 0}); got.e != api.OK || len(got.steps) != 1 || len(whole(a, got.id).Kids) != 700 {
		t.Errorf("a wide And: %s", got)
	}
	if got := soon(t, a, asking{someOf(), laid(a.Join(api.Or, append(ids, with)...)), 0}); got.e != api.OK || len(got.steps) != 1 || got.id != 1 {
		t.Errorf("a wide Or: %s", got)
	}
	a = arena.New(nil)
	ids = nil
	for i := range 600 {
		ids = append(ids, xy(1, 1+i, 0)(a))
	}
	if got := soon(t, a, asking{runOf(), laid(a.Bind(api.Some, 0, laid(a.Join(api.Or, ids...)))), 0}); got.e != api.OK || len(got.steps) != 600 || got.points() != 600 || got.id != 1 {
		t.Errorf("an Or with very many steps: %s", short(got.String()))
	}
	a = arena.New(nil)
	parts, falling := []api.Part{p(0, -1)}, []api.Part{p(0, 1)}
	for i := range 5000 {
		parts, falling = append(parts, p(1+i, 2+i%7)), append(falling, p(1+i, 3+i%5))
	}
	id := and(less(3, parts...), less(4, falling...))(a)
	for i := range 200 {
		id = laid(a.Join(api.And+i%2, id, less(i, p(9000+i, 1))(a)))
	}
	if got := soon(t, a, asking{runOf(), laid(a.Bind(api.Some, 0, id)), 0}); got.e != api.OK || len(got.steps) != 1 || got.points() != 2 {
		t.Errorf("long terms: %s", short(got.String()))
	}
}

// Beside an error all else is zero (R2); but for what a run has made and spent, nothing has changed.
func TestR2BesideErrors(t *testing.T) {
	d := &dice{state: 166}
	refused := map[api.Errno]int{}
	for range drawn {
		a := grown(t, d, 14+d.roll(40), 1+d.roll(2))
		for range 4 {
			q, was, nodes := d.asking(a), tellArena(a), a.Len()
			ahead := tellNodes(a, nodes)
			got := q.ask(a)
			refused[got.e]++
			if got.e == api.OK {
				continue
			}
			changes := got.e == api.ErrNodes || got.e == api.ErrLimbs
			if got.String() != (answer{e: got.e}).String() || !changes && tellArena(a) != was || tellNodes(a, nodes) != ahead {
				t.Fatalf("%s: %s, in\n%s", q, got, short(tellArena(a)))
			}
		}
	}
	if slices.Min([]int{refused[api.ErrNode], refused[api.ErrQuant], refused[api.ErrNodes], refused[api.ErrLimbs]}) < drawn/50 || refused[api.ErrArg] > 0 {
		t.Errorf("refused: %v", refused)
	}
}

// spoil overwrites steps, their numbers, and the spare room of all.
func spoil(steps []api.Step) {
	for i := range steps {
		for _, k := range []api.Int{steps[i].L, steps[i].Delta} {
			for at := range k.Mag[:cap(k.Mag)] {
				k.Mag[:cap(k.Mag)][at] = 55
			}
		}
	}
	steps = steps[:cap(steps)]
	for i := range steps {
		steps[i] = api.Step{Var: 5, L: n(5), Delta: n(5), High: true, Bounds: 5, Points: 5}
	}
}

// apart fails if two numbers of steps share memory: each is overwritten by itself.
func apart(t *testing.T, q asking, steps []api.Step) {
	t.Helper()
	var numbers []api.Int
	for _, step := range steps {
		numbers = append(numbers, step.L, step.Delta)
	}
	for i, one := range numbers {
		clear(one.Mag[:cap(one.Mag)])
		for _, other := range numbers[i+1:] {
			if zint.Sign(other) == 0 {
				t.Fatalf("%s: two numbers share memory", q)
			}
		}
	}
}

// What is answered is new memory (R3): its owner may overwrite it, and neither the arena nor another answer changes. What is
// there stays as it is; the same call again answers the same, and makes nothing.
func TestR3Answers(t *testing.T) {
	d := &dice{state: 167}
	several := 0
	for range drawn {
		a := grown(t, d, api.MaxNodes, 8)
		was := a.Len()
		ahead := tellNodes(a, was)
		q := d.asking(a)
		first := q.ask(a)
		if tellNodes(a, was) != ahead {
			t.Fatalf("%s changed what was there:\n%s\nwas\n%s", q, tellNodes(a, was), ahead)
		}
		if first.e != api.OK || a.Meter().Spent()+3*first.points() > api.MaxNodes {
			continue
		}
		wanted, nodes := first.String(), tellNodes(a, a.Len())
		second := q.ask(a)
		if second.String() != wanted || tellNodes(a, a.Len()) != nodes {
			t.Fatalf("%s: %s; then %s", q, wanted, second)
		}
		spoil(first.steps)
		if second.String() != wanted || tellNodes(a, a.Len()) != nodes {
			t.Fatalf("%s: an answer is kept: %s, want %s", q, second, wanted)
		}
		third := q.ask(a)
		if third.String() != wanted || tellNodes(a, a.Len()) != nodes {
			t.Fatalf("%s: an answer is kept: %s, want %s", q, third, wanted)
		}
		apart(t, q, third.steps)
		if q.name == "Run" {
			isProper(t, a, q.id, third.id)
		}
		if len(second.steps) > 1 {
			several++
		}
	}
	if several < drawn/20 {
		t.Errorf("%d with several steps", several)
	}
}

// The numbers of steps share nothing with the nodes from which they were taken.
func TestR3NumbersAlone(t *testing.T) {
	k := widest(3, 0)
	divides := atomOf(api.Div, k, n(1), []api.Part{p(0, 1)})
	for _, f := range []form{less(0, big(0, k), p(1, 1)), or(less(0, big(0, opposite(k)), p(1, 1)), and(y(1, 0), or(x(-1, 0), divides))), and(w(1, 0), or(x(-1, 0), divides))} {
		for _, c := range calls() {
			a, twin := arena.New(nil), arena.New(nil)
			id, same := some(0, f)(a), some(0, f)(twin)
			if c.name == "Some" {
				id, same = id-1, same-1
			}
			for range 3 {
				_, steps, _ := c.do(a, id, 0)
				spoil(steps)
				c.do(twin, same, 0)
			}
			if tellArena(a) != tellArena(twin) {
				t.Errorf("%s\nwithout spoiling\n%s", tellArena(a), tellArena(twin))
			}
		}
	}
}

// No answer hangs on what runs beside it, or ran ahead with another arena (R4).
func TestR4WhateverElseRuns(t *testing.T) {
	const hands = 8
	row := func() string {
		d := &dice{state: 168}
		var b strings.Builder
		for range 60 {
			a := grown(t, d, api.MaxNodes, 8)
			for range 4 {
				q := d.asking(a)
				b.WriteString(q.String() + ": " + q.ask(a).String() + "\n")
			}
			b.WriteString(tellArena(a))
		}
		return b.String()
	}
	wanted := row()
	var group sync.WaitGroup
	var got [hands]string
	for hand := range hands {
		group.Go(func() { got[hand] = row() })
	}
	group.Wait()
	for hand := range hands {
		if got[hand] != wanted {
			t.Fatal("answers differ where others run")
		}
	}
}
