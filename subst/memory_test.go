package subst_test

import (
	"errors"
	"slices"
	"strconv"
	"strings"
	"sync"
	"testing"
	"time"

	"riddle/api"
	"riddle/arena"
	"riddle/subst"
)

// With a nil arena each call is ErrArg (R1), whatever it is handed.
func TestR1NilArena(t *testing.T) {
	for _, id := range []int{0, 1, 2, -1, most, least} {
		for _, c := range []call{put(0, sum(0)), put(most, sum(3, p(0, 1))), put(0, api.Term{}), instance(), instance(val(0, 1)), mapped(nil), mapped(same)} {
			if got, e := c.do(nil, id); got != 0 || e != api.ErrArg {
				t.Errorf("%s of %d: %d, %v", c.text, id, got, e)
			}
		}
	}
}

// A function that panics is refused as one is that answers an atom that may not be; what was made stays (R1).
func TestR1Panics(t *testing.T) {
	var none []int
	for i, fail := range []func(){func() { panic("given up") }, func() { panic(errors.New("given up")) }, func() { panic(api.ErrQuant) }, func() { panic(nil) }, func() { none[3]++ }} {
		for last := range 3 {
			a, asked := arena.New(nil), 0
			id := and(x(1, 5), or(y(1, 5), z(1, 5)))(a)
			was := a.Len()
			got, e := subst.Map(a, id, func(x api.Atom) api.Atom {
				asked++
				if asked > last {
					fail()
				}
				return shift(x)
			})
			if got != 0 || e != api.ErrArg || asked != last+1 || a.Len() != was+last {
				t.Errorf("panic %d at %d: %d, %v, asked %d times, %d made", i, last, got, e, asked, a.Len()-was)
			}
			// The arena is as good as before.
			if got, e := subst.Map(a, id, shift); e != api.OK || got != and(x(1, 4), or(y(1, 4), z(1, 4)))(a) {
				t.Errorf("behind panic %d: %d, %v", i, got, e)
			}
		}
	}
}

// A function may use the arena itself: make nodes there, ask for others to be turned, or even let go what is gone
// through. What is let go is no node any more.
func TestR1FunctionsThatUseTheArena(t *testing.T) {
	f := and(x(1, 5), or(y(1, 5), z(1, 5)))
	a := arena.New(nil)
	id, made := f(a), 0
	got, e := subst.Map(a, id, func(x api.Atom) api.Atom {
		made++
		less(made, p(7, 1))(a)
		if _, e := subst.Map(a, id, same); e != api.OK {
			t.Errorf("Map within Map: %v", e)
		}
		return shift(x)
	})
	if want := and(x(1, 4), or(y(1, 4), z(1, 4)))(a); got != want || e != api.OK || made != 3 {
		t.Errorf("a function that makes nodes: %d, %v, want %d", got, e, want)
	}
	for _, keep := range []int{2, 3, 4, 5} {
		a := arena.New(nil)
		id := f(a)
		got, e := subst.Map(a, id, func(x api.Atom) api.Atom {
			a.Release(min(keep, a.Len()))
			return api.Atom{Kind: api.True}
		})
		if e == api.OK && got != 1 || e != api.OK && (e != api.ErrNode || got != 0) {
			t.Errorf("a function that keeps %d nodes: %d, %v", keep, got, e)
		}
	}
	// Others stand there instead by then, also such as the formula had none of.
	a = arena.New(nil)
	id = f(a)
	if got, e := subst.Map(a, id, func(x api.Atom) api.Atom {
		a.Release(2)
		for range 5 {
			laid(a.Bind(api.Some, a.Len(), a.Len()-1))
		}
		return shift(x)
	}); e != api.OK && got != 0 {
		t.Errorf("a function that lays others there: %d, %v", got, e)
	}
}

// soon fails unless a call is done in a few seconds: one that goes every way down would go on for ever.
func soon(t *testing.T, a *arena.Arena, c call, id int) (int, api.Errno) {
	t.Helper()
	type answer struct {
		id int
		e  api.Errno
	}
	answers := make(chan answer, 1)
	go func() {
		got, e := c.do(a, id)
		answers <- answer{got, e}
	}()
	select {
	case got := <-answers:
		return got.id, got.e
	case <-time.After(30 * time.Second):
		t.Fatalf("%s doesn't end", short(c.text))
	}
	return 0, api.OK
}

// ladder is a formula with more ways down than could be gone: each rung hangs at the two above it, and has a quantifier
// of its own, so that none of it is spread.
func ladder(a *arena.Arena, first, last, rungs int, kinds ...int) int {
	for i := range rungs {
		rung := laid(a.Join(api.And+i%2, first, last))
		if len(kinds) > 0 {
			rung = laid(a.Bind(kinds[i%len(kinds)], 10+i, rung))
		}
		first, last = last, rung
	}
	return last
}

// Of nodes that are reached on more ways than could be gone each is gone through once.
func TestR1ManyWays(t *testing.T) {
	a := arena.New(nil)
	top := ladder(a, x(1, 0)(a), y(1, 0)(a), 400, api.Some, api.All)
	was := a.Len()
	got, e := soon(t, a, put(0, sum(7, p(2, 1))), top)
	// The atom, and two nodes a rung.
	if e != api.OK || got != a.Len()-1 || a.Len() != was+801 {
		t.Errorf("Put: %d, %v, %d made", got, e, a.Len()-was)
	}
	if got, e := soon(t, a, put(9, sum(7, p(2, 1))), top); e != api.OK || got != top || a.Len() != was+801 {
		t.Errorf("Put of what is not free: %d, %v, %d made", got, e, a.Len()-was)
	}
	if got, e := soon(t, a, put(0, sum(7, p(2, 1), p(10, 1))), top); e != api.ErrBound || got != 0 || a.Len() != was+801 {
		t.Errorf("Put of what is caught: %d, %v, %d made", got, e, a.Len()-was)
	}
	if got, e := soon(t, a, mapped(same), top); e != api.ErrQuant || got != 0 || a.Len() != was+801 {
		t.Errorf("Map of what is not plain: %d, %v, %d made", got, e, a.Len()-was)
	}
	// Two values, one behind the other, in another arena: behind the second one stand constants alone.
	a = arena.New(nil)
	top = ladder(a, x(1, 0)(a), y(1, 0)(a), 300, api.Some, api.All)
	was = a.Len()
	if got, e := soon(t, a, instance(val(0, 5), val(3, 3), val(0, 4), val(1, 2)), top); e != api.OK || len(a.Free(got)) != 0 || a.Len() < was+300 {
		t.Errorf("Instance: %d, %v, %d made", got, e, a.Len()-was)
	}
}

// Likewise where nothing but And and Or is: there Map goes, too.
func TestR1ManyWaysWithoutQuantifiers(t *testing.T) {
	grow := func(a *arena.Arena) int {
		first, last := x(1, 0)(a), y(1, 0)(a)
		for i := range 200 {
			other := less(i, p(20+i, 1), p(0, 1))(a)
			first, last = last, laid(a.Join(api.And+i%2, first, last, other))
		}
		return last
	}
	for _, c := range []call{put(0, sum(0, p(3, 1))), mapped(func(x api.Atom) api.Atom { return shift(x) }), mapped(same), instance(val(0, 1), val(30, 1), val(1, 1))} {
		a := arena.New(nil)
		top := grow(a)
		if got, e := soon(t, a, c, top); e != api.OK || got == 0 {
			t.Errorf("%s: %d, %v", c.text, got, e)
		}
	}
	a, asked := arena.New(nil), 0
	top := grow(a)
	soon(t, a, mapped(func(x api.Atom) api.Atom { asked++; return x }), top)
	if asked != 202 {
		t.Errorf("asked %d times", asked)
	}
}

// Nothing below a node in which the variable is not free is gone through: it stays, in all that could be simpler, at
// however many places it hangs.
func TestR1WhatHasNotTheVariable(t *testing.T) {
	a := arena.New(nil)
	low := laid(a.Bind(api.Some, 5, ladder(a, and(y(1, 0), y(1, -3))(a), or(z(1, 0), always())(a), 400)))
	id := laid(a.Join(api.Or, laid(a.Bind(api.All, 6, laid(a.Join(api.And, low, x(1, 0)(a))))), low, x(1, 2)(a)))
	was := a.Len()
	got, e := soon(t, a, put(0, sum(0, p(3, 1))), id)
	// Two atoms, the And, the All, and the Or.
	if e != api.OK || a.Len() != was+5 || !slices.Contains(whole(a, got).Kids, low) {
		t.Errorf("%d, %v, %d made", got, e, a.Len()-was)
	}
}

// Formulas as deep as may be, and as wide.
func TestR1DeepAndWide(t *testing.T) {
	a := arena.New(nil)
	last := x(1, 0)(a)
	for i := range 999 {
		last = laid(a.Bind(api.Some+i%2, i+1, last))
	}
	if got, e := soon(t, a, put(0, sum(0, p(-1, 1))), last); e != api.OK || got != 2001 || a.Meter().Spent() != 2000 {
		t.Errorf("Put into what is deep: %d, %v, %d counted", got, e, a.Meter().Spent())
	}
	for kind, c := range []call{put(0, sum(0, p(-1, 1))), mapped(func(x api.Atom) api.Atom { return api.Atom{Kind: x.Kind, D: x.D, T: sum(0, p(-1, 1), x.T.Parts[1])} })} {
		a = arena.New(nil)
		var ids []int
		for i := range 998 {
			ids = append(ids, less(0, p(0, 1), p(1+i, 1))(a))
		}
		id := laid(a.Join(api.And+kind, ids...))
		if got, e := soon(t, a, c, id); e != api.OK || len(whole(a, got).Kids) != 998 || a.Len() != 2+2*999 {
			t.Errorf("%s of what is wide: %d, %v, %d nodes", c.text, got, e, a.Len())
		}
	}
}

// Very many values, of which few are of free variables; very long terms, whose parts mostly cancel.
func TestR1LongLists(t *testing.T) {
	a := arena.New(nil)
	id := ladder(a, less(0, p(0, 1), p(1, 1))(a), y(1, 0)(a), 300, api.Some, api.All)
	var vals []api.Value
	for i := range 300000 {
		vals = append(vals, val(2+i%100000, i))
	}
	if got, e := soon(t, a, instance(vals...), id); e != api.OK || got != id {
		t.Errorf("values of none: %d, %v", got, e)
	}
	vals = append(vals, val(0, 3), val(0, 4))
	got, e := soon(t, a, instance(vals...), id)
	if e != api.OK || !slices.Equal(a.Free(got), []int{1}) {
		t.Errorf("many values: %d, %v", got, e)
	}
	long := sum(4, p(2, 1))
	for i := range 100000 {
		long.Parts = append(long.Parts, p(i%30000, 1), p((i+7)%30000, -1))
	}
	for i := range 7 {
		long.Parts = append(long.Parts, p(i, -1), p((99993+i+7)%30000, 1))
	}
	// It is put into many atoms, and should not be gathered anew for each of them.
	a = arena.New(nil)
	var ids []int
	for i := range 990 {
		ids = append(ids, less(0, p(0, 1), p(-1-i, 1))(a))
	}
	id = laid(a.Join(api.And, ids...))
	if got, e := soon(t, a, put(0, long), id); e != api.OK || len(whole(a, got).Kids) != 990 {
		t.Errorf("a long term: %d, %v", got, e)
	}
}

// Beside an error the number is 0 (R2); but for what a run has made, nothing has changed.
func TestR2BesideErrors(t *testing.T) {
	d := &dice{state: 129}
	refused := map[api.Errno]int{}
	for range drawn {
		limbs := 1 + d.roll(2)
		a := grown(t, d, 5+d.roll(60), limbs)
		for range 6 {
			q, was := d.asking(a, limbs), tellArena(a)
			got, e, _ := q.do(a)
			changes := e == api.OK || e == api.ErrNodes || e == api.ErrLimbs || q.turn != nil && (e == api.ErrArg || e == api.ErrZero)
			if e != api.OK && got != 0 || !changes && tellArena(a) != was {
				t.Fatalf("%s: %d, %v", q, got, e)
			}
			refused[e]++
		}
	}
	if min(refused[api.ErrArg], refused[api.ErrNode], refused[api.ErrBound], refused[api.ErrQuant], refused[api.ErrNodes], refused[api.ErrLimbs]) < 10 {
		t.Errorf("refused: %v", refused)
	}
}

// Spare room is filled with what nobody else would write there.

const mark = 997700

func spareInt(a api.Int) api.Int {
	mag := append(slices.Clone(a.Mag), mark, mark, mark)
	return api.Int{Neg: a.Neg, Mag: mag[:len(a.Mag)]}
}

func markedPart() api.Part { return api.Part{Var: mark, C: spareInt(n(77))} }

func spareTerm(t api.Term) api.Term {
	var parts []api.Part
	for _, q := range t.Parts {
		parts = append(parts, api.Part{Var: q.Var, C: spareInt(q.C)})
	}
	parts = append(parts, markedPart(), markedPart())
	return api.Term{Parts: parts[:len(t.Parts)], K: spareInt(t.K)}
}

func spareValues(vals []api.Value) []api.Value {
	var all []api.Value
	for _, v := range vals {
		all = append(all, api.Value{Var: v.Var, N: spareInt(v.N)})
	}
	all = append(all, api.Value{Var: mark, N: spareInt(n(77))})
	return all[:len(vals)]
}

// tellRoom tells a term, its spare room too.
func tellRoom(t api.Term) string {
	var b strings.Builder
	for _, q := range t.Parts[:cap(t.Parts)] {
		b.WriteString(strconv.Itoa(q.Var) + " " + tellInt(api.Int{Neg: q.C.Neg, Mag: q.C.Mag[:cap(q.C.Mag)]}) + ", ")
	}
	return b.String() + tellInt(api.Int{Neg: t.K.Neg, Mag: t.K.Mag[:cap(t.K.Mag)]})
}

func tellRooms(vals []api.Value) string {
	var b strings.Builder
	for _, v := range vals[:cap(vals)] {
		b.WriteString(strconv.Itoa(v.Var) + " " + tellInt(api.Int{Neg: v.N.Neg, Mag: v.N.Mag[:cap(v.N.Mag)]}) + ", ")
	}
	return b.String()
}

// spoilInt, spoilTerm and spoilAtom overwrite all that they are handed, the spare room too.

func spoilInt(a api.Int) {
	for i := range a.Mag[:cap(a.Mag)] {
		a.Mag[:cap(a.Mag)][i] = 55
	}
}

func spoilTerm(t api.Term) {
	parts := t.Parts[:cap(t.Parts)]
	for i := range parts {
		spoilInt(parts[i].C)
		parts[i] = p(66, 66)
	}
	spoilInt(t.K)
}

func spoilAtom(x api.Atom) {
	spoilInt(x.D)
	spoilTerm(x.T)
}

// A term and a list of values stay as they are, their spare room too (R3); what becomes of them afterwards is nothing to
// the arena.
func TestR3ArgumentsStay(t *testing.T) {
	d := &dice{state: 130}
	changed := 0
	for range drawn {
		a := grown(t, d, 2000, 8)
		for range 4 {
			q := d.asking(a, 2)
			given := spareTerm(q.t)
			was := tellRoom(given)
			got, e := subst.Put(a, q.id, q.v, given)
			if tellRoom(given) != was {
				t.Fatalf("%s changed what it was handed: %s, was %s", q, tellRoom(given), was)
			}
			vals := spareValues(q.vals)
			was = tellRooms(vals)
			put, e2 := subst.Instance(a, q.id, vals)
			if tellRooms(vals) != was {
				t.Fatalf("%s changed what it was handed: %s, was %s", q, tellRooms(vals), was)
			}
			behind := tellArena(a)
			spoilTerm(given)
			for i := range vals[:cap(vals)] {
				spoilInt(vals[:cap(vals)][i].N)
				vals[:cap(vals)][i] = val(0, 1)
			}
			if tellArena(a) != behind {
				t.Fatalf("%s: what it was handed is kept", q)
			}
			if again, e3 := subst.Put(a, q.id, q.v, q.t); again != got || e3 != e {
				t.Fatalf("%s: %d, %v; then %d, %v", q, got, e, again, e3)
			}
			if again, e3 := subst.Instance(a, q.id, q.vals); again != put || e3 != e2 || tellArena(a) != behind {
				t.Fatalf("%s: %d, %v; then %d, %v", q, put, e2, again, e3)
			}
			if e == api.OK && got != q.id {
				changed++
			}
		}
	}
	if changed < drawn/4 {
		t.Errorf("%d changed", changed)
	}
}

// What a function is asked of is its own (R3): whether it keeps, changes or answers it, at once or later on, is nothing to
// the arena; what it has answered is not changed, and what becomes of that is nothing to the arena either.
func TestR3AtomsOfTheFunction(t *testing.T) {
	d := &dice{state: 131}
	asked := 0
	for range drawn {
		a, b := twins(t, d, 2000, 8)
		q := d.asking(a, 2)
		if q.turn == nil {
			continue
		}
		var kept, answered []api.Atom
		var rooms []string
		f, room := q.turn(), func(x api.Atom) string {
			return tellAtom(x) + tellRoom(x.T) + tellInt(api.Int{Mag: x.D.Mag[:cap(x.D.Mag)]})
		}
		got, e := subst.Map(a, q.id, func(x api.Atom) api.Atom {
			kept = append(kept, x)
			y := f(api.Atom{Kind: x.Kind, D: spareInt(x.D), T: spareTerm(x.T)})
			y = api.Atom{Kind: y.Kind, D: spareInt(y.D), T: spareTerm(y.T)}
			answered, rooms = append(answered, y), append(rooms, room(y))
			spoilAtom(x)
			return y
		})
		want, wantE := subst.Map(b, q.id, q.turn())
		for i, y := range answered {
			if room(y) != rooms[i] {
				t.Fatalf("%s: what was answered has changed: %s", q, room(y))
			}
			spoilAtom(y)
		}
		for _, x := range kept {
			spoilAtom(x)
		}
		if got != want || e != wantE || tellArena(a) != tellArena(b) {
			t.Fatalf("%s: %d, %v, want %d, %v, in\n%s\nwant\n%s", q, got, e, want, wantE, tellArena(a), tellArena(b))
		}
		asked += len(kept)
	}
	if asked < drawn/8 {
		t.Errorf("asked %d times", asked)
	}
}

// A function that answers what it was asked of, and changes it when it is asked the next time.
func TestR3TheAtomItself(t *testing.T) {
	a := arena.New(nil)
	f := and(x(1, 5), or(y(1, 5), div(4, 3, p(0, 1), p(2, 2))), z(1, 5))
	id := f(a)
	was := tellArena(a)
	var last api.Atom
	got, e := subst.Map(a, id, func(x api.Atom) api.Atom {
		spoilAtom(last)
		last = x
		return x
	})
	spoilAtom(last)
	if got != id || e != api.OK || tellArena(a) != was {
		t.Errorf("%d, %v, in\n%s\nwas\n%s", got, e, tellArena(a), was)
	}
}

// No answer hangs on what runs beside it, or ran ahead with another arena (R4).
func TestR4WhateverElseRuns(t *testing.T) {
	const hands = 8
	row := func() string {
		d := &dice{state: 132}
		var b strings.Builder
		for range 80 {
			a := grown(t, d, 2000, 2)
			for range 10 {
				q := d.asking(a, 2)
				got, e, seen := q.do(a)
				b.WriteString(q.String() + ": " + strconv.Itoa(got) + ", " + e.Error() + "\n" + seen)
			}
			b.WriteString(tellArena(a))
		}
		return b.String()
	}
	wanted := row()
	var group sync.WaitGroup
	var got [hands]string
	for hand := range hands {
		group.Go(func() { got[hand] = row() })
	}
	group.Wait()
	for hand := range hands {
		if got[hand] != wanted {
			t.Fatal("answers differ where others run")
		}
	}
}

// A term that is handed in may be one that stands in a node, and it may be handed in by several goroutines at one time:
// it is read alone.
func TestR4OneTermForSeveral(t *testing.T) {
	const hands = 8
	long := api.Term{K: wide(2)}
	for i := range 50 {
		long.Parts = append(long.Parts, p(50-i, i-20), p(i, 3))
	}
	vals := []api.Value{val(1, 4), val(0, 3), {Var: 2, N: widest(2)}}
	var group sync.WaitGroup
	var got [hands]string
	for hand := range hands {
		group.Go(func() {
			a := arena.New(nil)
			id := and(x(1, 0), less(3, p(0, 2), p(1, 1)), div(7, 1, p(0, 1), p(2, 3)))(a)
			subst.Put(a, id, 0, long)
			subst.Instance(a, id, vals)
			got[hand] = tellArena(a)
		})
	}
	group.Wait()
	for hand := range hands {
		if got[hand] != got[0] || got[0] == "" {
			t.Fatal("answers differ where others run")
		}
	}
}
