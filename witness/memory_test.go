package witness_test

import (
	"slices"
	"strings"
	"sync"
	"testing"
	"time"

	"riddle/api"
	"riddle/arena"
)

// soon fails unless a call is done in some seconds: what goes every way down, or from number to number, would go on for ever.
func soon(t *testing.T, a *arena.Arena, q asking) answer {
	t.Helper()
	done := make(chan answer, 1)
	go func() { done <- q.ask(a) }()
	select {
	case s := <-done:
		return s
	case <-time.After(60 * time.Second):
		t.Fatalf("%s: doesn't end", q)
	}
	return answer{}
}

// ladder is a formula with more ways down than could be gone: each rung hangs at the two above it.
func ladder(a *arena.Arena, first, last, rungs int) int {
	for i := range rungs {
		first, last = last, laid(a.Join(api.And+i%2, first, last))
	}
	return last
}

// Of nodes that are reached on more ways than could be gone each is looked at once.
func TestR1ManyWays(t *testing.T) {
	a := arena.New(nil)
	id := ladder(a, above(5)(a), divides(4, 0)(a), 300)
	for _, q := range []asking{oneOf(id, 0), findOf(id, vars(0), nil), findOf(id, vars(3, 0), vals(val(1, 1)))} {
		if got := soon(t, a, q); got.e != api.OK || !got.is {
			t.Errorf("%s: %s", q, got)
		}
	}
	if got := soon(t, a, findOf(id, nil, vals(val(0, 8)))); got.String() != (answer{is: true}).String() {
		t.Errorf("%s", got)
	}
	oneOf(ladder(a, y(1, 0)(a), id, 50), 0).refuses(t, a, api.ErrFree)
	oneOf(ladder(a, some(0, x(1, 0))(a), id, 50), 0).refuses(t, a, api.ErrQuant)
	findOf(ladder(a, y(1, 0)(a), id, 50), vars(0), nil).refuses(t, a, api.ErrArity)
}

// Formulas that are nested as deep as a meter lets them.
func TestR1Deep(t *testing.T) {
	a := arena.New(nil)
	id := above(-1)(a)
	for i := range 600 {
		id = laid(a.Join(api.And+i%2, id, divides(2+i%7, i)(a)))
	}
	if got := soon(t, a, oneOf(id, 0)); got.e != api.OK && got.e != api.ErrNodes {
		t.Errorf("%s", got)
	}
	a = arena.New(nil)
	id = y(1, -4)(a)
	for range 1900 {
		id = laid(a.Bind(api.All, 0, id))
	}
	if got := soon(t, a, findOf(id, vars(1), nil)); got.String() != (answer{numbers(5), true, api.OK}).String() {
		t.Errorf("%s", got)
	}
}

// Very many marks, very long periods, divisors of many limbs whose multiples have very many.
func TestR1Wide(t *testing.T) {
	a := arena.New(nil)
	var ids []int
	for i := range 900 {
		ids = append(ids, above(2*i)(a))
	}
	id := laid(a.Join(api.And, ids...))
	// The least mark, and one point behind each low one.
	if got := soon(t, a, oneOf(id, 0)); got.String() != (answer{numbers(1799), true, api.OK}).String() || a.Meter().Spent() != 901+901 {
		t.Errorf("%s, %d spent", got, a.Meter().Spent())
	}
	a, ids = arena.New(nil), nil
	d := &dice{state: 206}
	for range 1500 {
		k := widest(8, 2*d.roll(1<<30))
		ids = append(ids, laid(a.Atom(api.Atom{Kind: api.Div, D: k, T: api.Term{Parts: []api.Part{p(0, 1)}, K: n(17)}})))
	}
	id = laid(a.Join(api.And, ids...))
	if got := soon(t, a, oneOf(id, 0)); got.String() != (answer{numbers(-17), true, api.OK}).String() || a.Meter().Spent() != a.Len()-2+18 {
		t.Errorf("%s, %d spent", got, a.Meter().Spent())
	}
	id = laid(a.Join(api.And, id, doesnt(2, 1)(a)))
	if got := soon(t, a, oneOf(id, 0)); got.String() != oneOf(id, 0).nothing(api.ErrNodes).String() || a.Meter().Spent() != api.MaxNodes {
		t.Errorf("%s, %d spent", got, a.Meter().Spent())
	}
}

// Very many vars and vals: each of the first costs a point at least, the others nothing.
func TestR1ManyVariables(t *testing.T) {
	const many = 1000000
	a := arena.New(nil)
	id := and(xy(1, -1, 0), y(1, -1))(a)
	long, far := make([]int, many), make([]api.Value, many)
	for i := range many {
		long[i], far[i] = i-many/2, val(i-many/2, i%7)
	}
	q := findOf(id, long, far)
	if got := soon(t, a, q); got.String() != q.nothing(api.ErrNodes).String() || a.Meter().Spent() != api.MaxNodes {
		t.Errorf("%s, %d spent", got, a.Meter().Spent())
	}
	// Where there is nothing, no point is needed, however many there are.
	a = arena.New(nil)
	q = findOf(and(xy(1, -1, 0), xy(-1, 1, 0))(a), long, far)
	if got := soon(t, a, q); got.String() != q.nothing(api.OK).String() || a.Meter().Spent() != 3 {
		t.Errorf("%s, %d spent", got, a.Meter().Spent())
	}
	a = arena.New(nil)
	id = xy(1, -1, 0)(a)
	if got := soon(t, a, findOf(id, vars(0), far)); got.e != api.OK || !got.is || len(got.list) != 1 {
		t.Errorf("%s", got)
	}
	findOf(id, append(long, 0), far).refuses(t, a, api.ErrArg)
	findOf(id, long[:many/2+1], far[:many/2]).refuses(t, a, api.ErrArity)
	// As many as the points last for.
	a = arena.New(nil)
	if got := soon(t, a, findOf(1, ascending(api.MaxNodes), nil)); got.e != api.OK || !got.is || len(got.list) != api.MaxNodes {
		t.Errorf("%v, %v, %d values", got.e, got.is, len(got.list))
	}
}

// Numbers that do not stand as they should are those that they say; very great ones are fine.
func TestR1AnyNumbers(t *testing.T) {
	raw := func(neg bool, limbs ...uint32) api.Int { return api.Int{Neg: neg, Mag: limbs} }
	giveAll(t, []giving{
		{xy(1, -1, 0), vars(0), vals(bigVal(1, raw(true))), numbers(1)}, {xy(1, -1, 0), vars(0), vals(bigVal(1, raw(true, 0, 0))), numbers(1)}, {xy(1, -1, 0), vars(0), vals(bigVal(1, raw(false, 5, 0, 0, 0, 0, 0, 0, 0, 0, 0))), numbers(6)}, {xy(1, -1, 0), vars(0), vals(bigVal(1, raw(true, 5, 0))), numbers(-4)},
		{x(1, 0), nil, vals(bigVal(0, raw(false, slices.Concat([]uint32{1}, make([]uint32, 100000))...))), yes()}, {x(1, 0), nil, vals(bigVal(0, wide(100000, 0))), yes()}, {x(1, 0), nil, vals(bigVal(0, raw(true, make([]uint32, 100000)...))), nil},
	})
}

// Beside an error, and beside a false, all else is zero (R2); but for what a run has made and spent, nothing has changed.
func TestR2BesideErrors(t *testing.T) {
	d := &dice{state: 207}
	refused := map[api.Errno]int{}
	for range drawn {
		a := grown(t, d, 14+d.roll(60), 1+d.roll(2))
		for range 4 {
			q, was, nodes := d.asking(a, 2), tellArena(a), a.Len()
			ahead := tellNodes(a, nodes)
			got := q.ask(a)
			refused[got.e]++
			if got.is && got.e == api.OK {
				continue
			}
			changes := got.e == api.ErrNodes || got.e == api.ErrLimbs || got.e == api.OK
			if got.String() != q.nothing(got.e).String() || !q.one && got.list != nil || !changes && tellArena(a) != was || tellNodes(a, nodes) != ahead || q.one && a.Len() != nodes {
				t.Fatalf("%s: %s, in\n%s", q, got, short(tellArena(a)))
			}
		}
	}
	for _, e := range []api.Errno{api.OK, api.ErrNode, api.ErrQuant, api.ErrFree, api.ErrArg, api.ErrArity, api.ErrNodes, api.ErrLimbs} {
		if refused[e] < drawn/50 {
			t.Errorf("refused: %v", refused)
		}
	}
}

// kept is what was handed in, and all of its memory, spare room too, as it is told.
func kept(q asking) string {
	var b strings.Builder
	b.WriteString(tellNumbers(q.vars[:cap(q.vars)]))
	for _, value := range q.vals[:cap(q.vals)] {
		b.WriteString(tellVals(vals(value)) + tellInt(api.Int{Mag: value.N.Mag[:cap(value.N.Mag)]}))
	}
	return b.String()
}

// roomy is the same call with memory of its own, with spare room everywhere.
func roomy(q asking) asking {
	own := q
	own.vars = append(make([]int, 0, len(q.vars)+3), q.vars...)
	own.vals = make([]api.Value, 0, len(q.vals)+3)
	for _, value := range q.vals {
		value.N.Mag = append(make([]uint32, 0, len(value.N.Mag)+2), value.N.Mag...)
		own.vals = append(own.vals, value)
	}
	for i := range 3 {
		own.vars[:cap(own.vars)][len(own.vars)+i] = 700 + i
		own.vals[:cap(own.vals)][len(own.vals)+i] = val(800+i, 900+i)
	}
	return own
}

// spoil overwrites numbers, and the spare room of all.
func spoil(l []api.Int) {
	for _, k := range l {
		for at := range k.Mag[:cap(k.Mag)] {
			k.Mag[:cap(k.Mag)][at] = 55
		}
	}
	l = l[:cap(l)]
	for i := range l {
		l[i] = n(56)
	}
}

// spoilAsked overwrites what was handed in, likewise.
func spoilAsked(q asking) {
	for i := range q.vars[:cap(q.vars)] {
		q.vars[:cap(q.vars)][i] = 0
	}
	for i, value := range q.vals[:cap(q.vals)] {
		spoil(bigs(value.N))
		q.vals[:cap(q.vals)][i].Var = 0
	}
}

// apart fails if two numbers of an answer share memory: each is overwritten by itself.
func apart(t *testing.T, q asking, l []api.Int) {
	t.Helper()
	for i, one := range l {
		was := tellInts(l[i+1:])
		for at := range one.Mag[:cap(one.Mag)] {
			one.Mag[:cap(one.Mag)][at] ^= 77
		}
		if tellInts(l[i+1:]) != was {
			t.Fatalf("%s: two numbers share memory", q)
		}
	}
}

// Neither vars nor vals are changed, nor their spare room; nor are they kept. What is answered is new memory (R3): its owner
// may overwrite it, and neither the arena nor another answer changes. The same call again answers the same, and makes nothing.
func TestR3(t *testing.T) {
	d := &dice{state: 208}
	several, great := 0, 0
	for range drawn {
		a := grown(t, d, api.MaxNodes, 8)
		was := a.Len()
		ahead := tellNodes(a, was)
		plain := d.asking(a, 2)
		q := roomy(plain)
		given := kept(q)
		first := q.ask(a)
		if tellNodes(a, was) != ahead || kept(q) != given {
			t.Fatalf("%s changed what was there:\n%s\nwas\n%s\n%s\nwas\n%s", plain, kept(q), given, tellNodes(a, was), ahead)
		}
		if first.e != api.OK || a.Meter().Spent() > api.MaxNodes/4 {
			continue
		}
		wanted, nodes := first.String(), tellNodes(a, a.Len())
		second := q.ask(a)
		spoilAsked(q)
		if first.String() != wanted || second.String() != wanted || tellNodes(a, a.Len()) != nodes {
			t.Fatalf("%s: %s; then %s, want %s", plain, first, second, wanted)
		}
		spoil(first.list)
		if second.String() != wanted || tellNodes(a, a.Len()) != nodes {
			t.Fatalf("%s: an answer is kept: %s, want %s", plain, second, wanted)
		}
		third := plain.ask(a)
		if third.String() != wanted || tellNodes(a, a.Len()) != nodes {
			t.Fatalf("%s: an answer is kept: %s, want %s", plain, third, wanted)
		}
		apart(t, plain, third.list)
		if second.is && len(second.list) > 1 {
			several++
		}
		if slices.ContainsFunc(second.list, func(k api.Int) bool { return len(k.Mag) > 1 }) {
			great++
		}
	}
	if several < drawn/20 || great < drawn/50 {
		t.Errorf("%d with several values, %d with great ones", several, great)
	}
}

// Values that are marks themselves share nothing with the nodes from which they were taken, or with values that were put in.
func TestR3NumbersAlone(t *testing.T) {
	k := widest(3, 5)
	for _, f := range of(bigLess(k, p(0, -1)), bigLess(opposite(k), p(0, -1)), and(bigLess(k, p(0, -1)), y(1, 0)), and(bigLess(opposite(k), p(0, 1)), xy(-1, 1, 1)), xy(-1, 1, 1)) {
		a, twin := arena.New(nil), arena.New(nil)
		id, same := f(a), f(twin)
		for range 3 {
			for _, q := range []asking{oneOf(id, 0), findOf(id, vars(0, 1), nil), findOf(id, vars(1, 0), nil), findOf(id, vars(0), vals(bigVal(1, own(k))))} {
				got := q.ask(a)
				spoil(got.list)
				for _, value := range q.vals {
					spoil(bigs(value.N))
				}
				q.id = same
				if len(q.vals) > 0 {
					q.vals = vals(bigVal(1, own(k)))
				}
				q.ask(twin)
			}
			if tellArena(a) != tellArena(twin) {
				t.Fatalf("%s\nwithout spoiling\n%s", tellArena(a), tellArena(twin))
			}
		}
	}
}

// own is the same number in memory of its own.
func own(k api.Int) api.Int { return api.Int{Neg: k.Neg, Mag: slices.Clone(k.Mag)} }

// No answer hangs on what runs beside it, or ran ahead with another arena (R4).
func TestR4WhateverElseRuns(t *testing.T) {
	const hands = 8
	row := func() string {
		d := &dice{state: 209}
		var b strings.Builder
		for range 60 {
			a := grown(t, d, api.MaxNodes, 8)
			for range 4 {
				q := d.asking(a, 3)
				b.WriteString(q.String() + ": " + q.ask(a).String() + "\n")
			}
			b.WriteString(tellArena(a))
		}
		return b.String()
	}
	wanted := row()
	var group sync.WaitGroup
	var got [hands]string
	for hand := range hands {
		group.Go(func() { got[hand] = row() })
	}
	group.Wait()
	for hand := range hands {
		if got[hand] != wanted {
			t.Fatal("answers differ where others run")
		}
	}
}
