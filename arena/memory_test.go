package arena_test

import (
	"slices"
	"strconv"
	"strings"
	"sync"
	"testing"

	"riddle/api"
	"riddle/arena"
)

// A method on a nil arena answers ErrArg, where it answers an error, else zero (R1), and does nothing.
func TestR1NilArena(t *testing.T) {
	var a *arena.Arena
	for range 2 {
		for _, number := range []int{least, -1, 0, 1, 2, most} {
			follow(t, a, line{bind(api.Some, 0, number), err(api.ErrArg)}, line{bind(api.And, 0, number), err(api.ErrArg)}, line{join(api.And, number), err(api.ErrArg)}, line{join(number, number), err(api.ErrArg)},
				line{node(number), no()}, line{free(number), list()}, line{reach(number), list()}, line{plain(number), no()}, line{release(number), err(api.ErrArg)}, line{length(), id(0)})
		}
		for _, x := range []api.Atom{{}, {Kind: api.True}, {Kind: 9}, v(0), less(of(1)), div(0, of(1)), div(3, of(1, p(0, 1))), not(3, of(1, p(0, 1))), less(of(0, big(0, wide(9)), p(1, 1)))} {
			follow(t, a, line{atomOf(x), err(api.ErrArg)})
		}
		follow(t, a, line{join(api.And), err(api.ErrArg)}, line{join(api.Or), err(api.ErrArg)}, line{join(api.Or, 0, 1), err(api.ErrArg)})
		if a.Meter() != nil {
			t.Error("a nil arena has a meter")
		}
	}
}

// Long lists, long terms and long numbers end, too (R1).
func TestR1Long(t *testing.T) {
	const long = 200000
	a := arena.New(nil)
	for i := range 3 {
		follow(t, a, line{atomOf(v(i)), id(2 + i)})
	}
	kids := make([]int, long)
	for i := range kids {
		kids[i] = 2 + i*i%3
	}
	follow(t, a, line{join(api.And, kids...), id(5)}, line{node(5), is(api.Node{Kind: api.And, Kids: []int{2, 3}})}, line{join(api.Or, append(kids, 6)...), err(api.ErrNode)})
	var many api.Term
	for i := range long {
		many.Parts = append(many.Parts, p((i*7919)%long, 1))
	}
	follow(t, a, line{atomOf(less(many)), id(6)}, line{atomOf(less(many)), id(6)}, line{bind(api.Some, 7, 6), id(7)}, line{bind(api.All, -7, 7), id(8)})
	if got := a.Free(8); len(got) != long-1 || !slices.IsSorted(got) || slices.Contains(got, 7) {
		t.Error("Free of many variables", len(got))
	}
	number := above(slices.Repeat([]uint32{top}, long)...)
	follow(t, a, line{atomOf(less(of(0, p(0, 1), big(1, number)))), err(api.ErrLimbs)}, line{length(), id(9)})
}

// deep is an arena of as many nodes as may be, and the last one: each is made of all that was made ahead, or of the last
// two, of which there are more ways down than could be gone.
func deep(t *testing.T, all bool) (*arena.Arena, int) {
	t.Helper()
	a := arena.New(nil)
	follow(t, a, line{atomOf(less(of(0, p(0, 1), p(1, 1)))), id(2)}, line{atomOf(less(of(0, p(0, 1), p(2, 1)))), id(3)})
	for last := 3; last < 2001; last++ {
		kids := []int{last - 1, last}
		if all && last%2 == 0 {
			kids = upTo(last + 1)
		}
		c := join(api.And+last%2, kids...)
		if last%3 == 1 {
			c = bind(api.Some, last, last)
		}
		follow(t, a, line{c, id(last + 1)})
	}
	return a, 2001
}

func TestR1Deep(t *testing.T) {
	for _, all := range []bool{false, true} {
		a, last := deep(t, all)
		counts(t, a.Meter(), 2000, api.OK)
		from := 2
		if all {
			from = 0
		}
		follow(t, a, line{free(last), list(0, 1, 2)}, line{reach(last), list(upTo(last + 1)[from:]...)}, line{plain(last), no()}, line{plain(3), yes()}, line{free(3), list(0, 2)})
	}
}

// A row of quantifiers as long as may be, each of another variable, below nodes that are made of all of them.
func TestR1ManyQuantifiers(t *testing.T) {
	a := arena.New(nil)
	var many api.Term
	for i := range 1000 {
		many.Parts = append(many.Parts, p(i, 1))
	}
	follow(t, a, line{atomOf(less(many)), id(2)})
	for i := range 1000 {
		follow(t, a, line{bind(api.Some+i%2, i, 2+i), id(3 + i)})
	}
	for last := 1002; last < 2001; last++ {
		follow(t, a, line{join(api.And+last%2, upTo(last + 1)[3:]...), id(last + 1)})
	}
	follow(t, a, line{free(1002), list()}, line{free(502), list(upTo(1000)[500:]...)}, line{free(2001), list(upTo(1000)[1:]...)}, line{plain(2001), no()}, line{plain(2), yes()})
}

// Beside an error, or a false that says that there is nothing, all else is zero (R2), and nothing has changed.
func TestR2BesideErrors(t *testing.T) {
	d := &dice{state: 87}
	refused := map[api.Errno]int{}
	for range drawn / 10 {
		a := arena.New(meterOf(t, 1+d.roll(40), 1+d.roll(2)))
		for range 80 {
			c, was := d.act(a.Len(), 2), tellArena(a)
			spent, over := a.Meter().Spent(), a.Meter().Over()
			got := c.do(a)
			if got.e == api.OK && (c.call != isNode || got.is) {
				continue
			}
			refused[got.e]++
			if got.String() != err(got.e).String() || tellArena(a) != was || a.Meter().Spent() != spent {
				t.Fatalf("%s: %s", c, got)
			}
			if isMeters := got.e == api.ErrNodes || got.e == api.ErrLimbs; !isMeters && a.Meter().Over() != over {
				t.Fatalf("%s crosses %v", c, a.Meter().Over())
			}
		}
	}
	for _, e := range []api.Errno{api.OK, api.ErrArg, api.ErrZero, api.ErrNodes, api.ErrLimbs, api.ErrNode} {
		if refused[e] < 10 {
			t.Errorf("%v: %d", e, refused[e])
		}
	}
}

// tellArena tells all of an arena.
func tellArena(a *arena.Arena) string {
	var b strings.Builder
	for of := range a.Len() + 1 {
		for _, c := range []act{node(of), free(of), reach(of), plain(of)} {
			b.WriteString(c.do(a).String() + "\n")
		}
	}
	return b.String()
}

func roomyInt(a api.Int) api.Int {
	a.Mag = append(slices.Clone(a.Mag), 0xabcd, 0xabcd, 0xabcd)[:len(a.Mag)]
	return a
}

// roomy is a call whose lists have marked spare room, each in memory of its own.
func roomy(c act) act {
	parts := slices.Clone(c.atom.T.Parts)
	for i := range parts {
		parts[i].C = roomyInt(parts[i].C)
	}
	parts = append(parts, p(77, 77), p(77, 77), p(77, 77))[:len(parts)]
	c.atom = api.Atom{Kind: c.atom.Kind, D: roomyInt(c.atom.D), T: api.Term{Parts: parts, K: roomyInt(c.atom.T.K)}}
	c.kids = append(slices.Clone(c.kids), 9977, 9977, 9977)[:len(c.kids)]
	return c
}

func tellRoomInt(a api.Int) string {
	a.Mag = a.Mag[:cap(a.Mag)]
	return tellInt(a)
}

// tellRoom tells spare room, too.
func tellRoom(c act) string {
	text := tellRoomInt(c.atom.D) + "; " + tellRoomInt(c.atom.T.K) + "; " + tellList(c.kids[:cap(c.kids)])
	for _, q := range c.atom.T.Parts[:cap(c.atom.T.Parts)] {
		text += " + " + tellRoomInt(q.C) + " v" + strconv.Itoa(q.Var)
	}
	return text
}

// The calls below call f with the place of each thing in memory, spare room too.

func intCells(a api.Int, f func(place any)) {
	limbs := a.Mag[:cap(a.Mag)]
	for i := range limbs {
		f(&limbs[i])
	}
}

func listCells(l []int, f func(place any)) {
	l = l[:cap(l)]
	for i := range l {
		f(&l[i])
	}
}

func termCells(t api.Term, f func(place any)) {
	intCells(t.K, f)
	parts := t.Parts[:cap(t.Parts)]
	for i := range parts {
		intCells(parts[i].C, f)
		f(&parts[i])
	}
}

func actCells(c act, f func(place any)) {
	intCells(c.atom.D, f)
	termCells(c.atom.T, f)
	listCells(c.kids, f)
}

func answerCells(a answer, f func(place any)) {
	intCells(a.node.D, f)
	termCells(a.node.T, f)
	listCells(a.node.Kids, f)
	listCells(a.list, f)
}

// scribble writes over all that is at a place.
func scribble(place any) {
	switch x := place.(type) {
	case *uint32:
		*x = 0x5555
	case *int:
		*x = 5
	case *api.Part:
		*x = p(5555, 5555)
	}
}

// What is handed in stays as it is, its spare room too (R3).
func TestR3ArgumentsStay(t *testing.T) {
	d := &dice{state: 88}
	for range drawn / 4 {
		a := arena.New(nil)
		for range 60 {
			c := roomy(d.act(a.Len(), 2))
			was := tellRoom(c)
			for range 2 {
				c.do(a)
				if tellRoom(c) != was {
					t.Fatalf("%s changed what it was handed: %s", c, was)
				}
			}
		}
	}
}

// What becomes of lists once the call has answered is nothing to the arena (R3).
func TestR3NothingIsKept(t *testing.T) {
	d := &dice{state: 89}
	for range drawn / 4 {
		a, s := arena.New(nil), newSlow(&slowMeter{nodes: api.MaxNodes, limbs: api.MaxLimbs})
		row := ""
		for range 60 {
			c := d.act(len(s.nodes), 2)
			row += " " + c.String()
			given := roomy(c)
			got, want := given.do(a), s.do(c)
			actCells(given, scribble)
			if got.String() != want.String() {
				t.Fatalf("%s: %s, want %s", row, got, want)
			}
		}
		agree(t, row, a, s)
	}
}

// What Node, Free and Reach answer can be written over without a change of the arena (R3).
func TestR3AnswersCanBeWrittenOver(t *testing.T) {
	d := &dice{state: 90}
	for range drawn / 10 {
		a := grown(d, 100)
		was := tellArena(a)
		for of := range a.Len() {
			x, _ := a.Node(of)
			again := roomy(remade(x))
			for _, c := range []act{node(of), free(of), reach(of)} {
				answerCells(c.do(a), scribble)
			}
			follow(t, a, line{again, id(of)})
		}
		if tellArena(a) != was {
			t.Fatal("an answer shares memory with the arena")
		}
	}
}

// No two answers share memory, nor an answer and what was handed in (R3).
func TestR3AnswersAreNew(t *testing.T) {
	d := &dice{state: 91}
	for range drawn / 20 {
		a := arena.New(nil)
		seen := map[any]string{}
		own := func(what string) func(place any) {
			return func(place any) {
				if first, is := seen[place]; is {
					t.Errorf("%s shares memory with %s", what, first)
				}
				seen[place] = what
			}
		}
		for range 40 {
			c := roomy(d.act(a.Len(), 2))
			actCells(c, own("what was handed to "+c.String()))
			answerCells(c.do(a), own(c.String()))
		}
		for of := range a.Len() {
			for _, c := range []act{node(of), free(of), reach(of), node(of), free(of), reach(of)} {
				answerCells(c.do(a), own(c.String()))
			}
		}
	}
}

// All lists that are handed in may be the same memory, or overlap; kids may be what an arena has answered.
func TestR3ListsThatOverlap(t *testing.T) {
	limbs := []uint32{6, 0, top, 9, 0, 3, 0}
	parts := []api.Part{big(2, api.Int{Mag: limbs[:3]}), big(0, api.Int{Mag: limbs[:1]}), big(2, api.Int{Neg: true, Mag: limbs[:1]}), big(1, api.Int{Neg: true, Mag: limbs[:5]})}
	a, b := arena.New(nil), arena.New(nil)
	for i := range len(parts) {
		for kind := api.Less; kind <= api.Not; kind++ {
			c := atomOf(api.Atom{Kind: kind, D: api.Int{Mag: limbs[3:5]}, T: api.Term{Parts: parts[i:], K: api.Int{Mag: limbs[:1]}}})
			if got, want := c.do(a), roomy(c).do(b); got.String() != want.String() || tellArena(a) != tellArena(b) {
				t.Fatalf("%s: %s, want %s", c, got, want)
			}
		}
	}
	if !slices.Equal(limbs, []uint32{6, 0, top, 9, 0, 3, 0}) {
		t.Error("the limbs were changed", limbs)
	}
	all, _ := a.Join(api.Or, upTo(a.Len())...)
	kids := a.Reach(all)
	follow(t, a, line{join(api.And, kids[1:3]...), id(all + 1)}, line{join(api.And, kids[:3]...), id(all + 2)}, line{reach(all), list(kids...)}, line{node(all + 1), is(api.Node{Kind: api.And, Kids: []int{1, 2}})})
}

// Two arenas have nothing to do with each other.
func TestTwoArenas(t *testing.T) {
	a, b := arena.New(nil), arena.New(nil)
	follow(t, a, line{atomOf(v(0)), id(2)}, line{atomOf(v(1)), id(3)}, line{join(api.And, 2, 3), id(4)})
	follow(t, b, line{length(), id(2)}, line{node(2), no()}, line{atomOf(v(1)), id(2)}, line{atomOf(v(2)), id(3)}, line{join(api.And, 2, 3), id(4)}, line{free(4), list(1, 2)})
	follow(t, a, line{free(4), list(0, 1)}, line{release(2), err(api.OK)})
	follow(t, b, line{length(), id(5)}, line{join(api.And, 3, 2), id(4)}, line{atomOf(v(1)), id(2)})
	follow(t, a, line{atomOf(v(2)), id(2)}, line{atomOf(less(of(0, big(0, wide(9)), p(1, 1)))), err(api.ErrLimbs)}, line{atomOf(v(3)), err(api.ErrLimbs)})
	follow(t, b, line{atomOf(v(3)), id(5)})
	counts(t, a.Meter(), 4, api.ErrLimbs)
	counts(t, b.Meter(), 4, api.OK)
}

// No answer hangs on what runs beside it (R4): arenas that share a meter are no worse for it, if it is not over.
func TestR4WhateverElseRuns(t *testing.T) {
	const hands, each = 8, 200
	row := func(a *arena.Arena) string {
		d := &dice{state: 92}
		var b strings.Builder
		for range each {
			c := d.act(a.Len(), 2)
			b.WriteString(c.String() + ": " + c.do(a).String() + "\n")
		}
		return b.String() + tellArena(a)
	}
	alone := arena.New(meterOf(t, 2000, 8))
	wanted := row(alone)
	for range 5 {
		m := meterOf(t, 2000, 8)
		var group sync.WaitGroup
		var got [hands]string
		for hand := range hands {
			group.Go(func() { got[hand] = row(arena.New(m)) })
		}
		group.Wait()
		for hand := range hands {
			if got[hand] != wanted {
				t.Fatalf("%s, want %s", got[hand], wanted)
			}
		}
		counts(t, m, hands*alone.Meter().Spent(), api.OK)
	}
}

// Several goroutines may look at one arena, if none makes anything.
func TestR4LookedAtByMany(t *testing.T) {
	a := grown(&dice{state: 93}, 150)
	wanted := tellArena(a)
	var group sync.WaitGroup
	for range 8 {
		group.Go(func() {
			for range 10 {
				if tellArena(a) != wanted {
					t.Error("what is looked at changes")
				}
			}
		})
	}
	group.Wait()
}
