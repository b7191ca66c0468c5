package raise_test

import (
	"slices"
	"strconv"
	"strings"
	"sync"
	"testing"
	"time"
	"unsafe"

	"riddle/api"
	"riddle/raise"
	"riddle/syntax"
)

// soon fails unless something is done in some seconds: what goes every way down would go on for ever.
func soon(t *testing.T, what string, do func()) {
	t.Helper()
	done := make(chan int)
	go func() {
		defer close(done)
		do()
	}()
	select {
	case <-done:
	case <-time.After(30 * time.Second):
		t.Fatalf("%s doesn't end", what)
	}
}

// A node that hangs at more places than could be gone to is ErrStore; where a name is missing, ErrFree.
func TestR1NodesAtManyPlaces(t *testing.T) {
	m := newMaker(t)
	steep, wide, bound := m.less(0, 1), []int{m.less(1, 1), m.less(2, 1), m.less(3, 1)}, m.less(0, 1, -1)
	i, j := m.less(4, 1), m.less(5, 1)
	for k := range 90 {
		steep = m.and(steep, m.or(steep, k%2))
		wide = append(wide, m.or(wide...))
		// Each level binds another variable at one of two places: the names differ at more places than could be kept.
		bound = m.and(bound, m.all(k%2, bound), m.some(2+k, bound))
		i, j = j, m.or(i, j)
	}
	last := wide[len(wide)-1]
	for what, id := range map[string]int{"steep": steep, "wide": last, "bound": bound, "like Fibonacci's": j, "all of them": m.and(steep, last, bound, j)} {
		soon(t, what, func() { m.wantNone(id, []string{"x", "y"}, api.ErrStore) })
		soon(t, what, func() { m.wantNone(id, nil, api.ErrFree) })
		soon(t, what, func() { m.wantNone(m.some(95, id), taken("v95", 21), api.ErrFree) })
	}
}

// As many nodes as there may be, each with all ahead of it as kids.
func TestR1ManyKidsEach(t *testing.T) {
	m := newMaker(t)
	ids := []int{m.less(0, 1)}
	for len(ids) < 1999 {
		ids = append(ids, m.must(m.a.Join(api.And+len(ids)%2, append([]int{0}, ids...)...)))
	}
	soon(t, "nodes with many kids", func() {
		if got, e := raise.To(m.a, ids[len(ids)-1], []string{"x"}); e != api.ErrStore || !isZero(got) {
			t.Errorf("many kids: %v", e)
		}
	})
}

func TestR1Deep(t *testing.T) {
	m := newMaker(t)
	id := m.less(0, 1)
	for k := range 1990 {
		id = m.must(m.a.Bind(api.Some+k%2, k%5, id))
	}
	soon(t, "many quantifiers", func() {
		u, e := raise.To(m.a, id, []string{"v3", "x"})
		if e != api.OK || syntax.Size(u) != 1993 || u.Names[0] != "v4" || u.Kids[0].Names[0] != "v3_" {
			t.Errorf("many quantifiers: %v, %d", e, syntax.Size(u))
		}
		for u.Kind != api.TreeLt {
			u = u.Kids[0]
		}
		if tellTree(u) != tellTree(lt(num(0), v("v0"))) {
			t.Errorf("below many quantifiers: %s", tellTree(u))
		}
	})
}

// Terms and lists of names that are very long.
func TestR1Long(t *testing.T) {
	const many = 200000
	names := manyNames(many)
	long := sum(many, many/2, -1)
	long.K = small(-9)
	slices.Reverse(long.Parts)
	soon(t, "a long term", func() {
		u, e := raise.Term(long, names)
		if e != api.OK || tellTree(u.Kids[1]) != tellTree(num(9)) || u.Kind != api.TreeSub {
			t.Errorf("a long term: %v", e)
			return
		}
		u = u.Kids[0]
		for v := many - 1; v > 0; v-- {
			kind := api.TreeAdd
			if v < many/2 {
				kind = api.TreeSub
			}
			if u.Kind != kind || u.Kids[1].Kind != api.TreeVar || u.Kids[1].Name != names[v] {
				t.Errorf("at the variable %d the kind is %d", v, u.Kind)
				return
			}
			u = u.Kids[0]
		}
		if tellTree(u) != tellTree(neg(v("x0"))) {
			t.Errorf("the first piece is %s", tellTree(u))
		}
	})
	soon(t, "a long atom", func() {
		u, e := raise.Atom(less(long), names)
		if e != api.OK || u.Kind != api.TreeLt || u.Kids[0].Kind != api.TreeAdd || syntax.Size(u) != api.MaxStore+1 {
			t.Errorf("a long atom: %v", e)
		}
		m := newMaker(t)
		if got, e := raise.To(m.a, m.atom(less(long)), names); e != api.ErrStore || !isZero(got) {
			t.Errorf("To of a long atom: %v", e)
		}
	})
	soon(t, "many names", func() {
		wantNoTerm(t, of1(0), append(names, "x0"), api.ErrArg)
		wantNoAtom(t, less(of1(0)), append(names, "or"), api.ErrArg)
		m := newMaker(t)
		m.wantNone(0, append([]string{"x" + strconv.Itoa(many-1)}, names...), api.ErrArg)
		wantNoTerm(t, of1(0), []string{strings.Repeat("n", 1<<20)}, api.ErrArg)
	})
}

const spare = 3

// roomyInt, and those like it, have marked spare room behind each of their lists.
func roomyInt(a api.Int) api.Int {
	return api.Int{Neg: a.Neg, Mag: append(slices.Clone(a.Mag), slices.Repeat([]uint32{0xabcd}, spare)...)[:len(a.Mag)]}
}

func roomyTerm(t api.Term) api.Term {
	var parts []api.Part
	for _, p := range t.Parts {
		parts = append(parts, api.Part{Var: p.Var, C: roomyInt(p.C)})
	}
	return api.Term{Parts: append(parts, slices.Repeat([]api.Part{{Var: 77}}, spare)...)[:len(parts)], K: roomyInt(t.K)}
}

func roomyNames(names []string) []string {
	own := make([]string, 0, len(names)+spare)
	for _, name := range names {
		own = append(own, strings.Clone(name))
	}
	return append(own, slices.Repeat([]string{"spare"}, spare)...)[:len(names)]
}

func tellRoomInt(a api.Int) string {
	return tellInt(api.Int{Neg: a.Neg, Mag: a.Mag[:cap(a.Mag)]}) + "/" + strconv.Itoa(len(a.Mag))
}

// tellRoom tells an atom with the spare room of all lists.
func tellRoom(x api.Atom) string {
	text := strconv.Itoa(x.Kind) + tellRoomInt(x.D) + tellRoomInt(x.T.K) + "/" + strconv.Itoa(len(x.T.Parts))
	for _, p := range x.T.Parts[:cap(x.T.Parts)] {
		text += "," + strconv.Itoa(p.Var) + tellRoomInt(p.C)
	}
	return text
}

// What is handed in stays as it is, spare room too (R3).
func TestR3ArgumentsStay(t *testing.T) {
	d := &dice{state: 210}
	for range drawn / 3 {
		names := roomyNames(d.names(d.roll(8)))
		if d.roll(5) == 0 {
			names = roomyNames(append(names, "x", "or"))
		}
		x := d.atom(3, -1, 5)
		x = api.Atom{Kind: x.Kind, D: roomyInt(x.D), T: roomyTerm(x.T)}
		was, namesWere := tellRoom(x), strings.Join(names[:cap(names)], ",")
		raise.Term(x.T, names)
		raise.Atom(x, names)
		m := newMaker(t)
		raise.To(m.a, m.some(3, m.and(m.atom(x), m.some(2, 1))), names)
		if tellRoom(x) != was || strings.Join(names[:cap(names)], ",") != namesWere {
			t.Fatalf("%s or %q was changed", was, namesWere)
		}
	}
}

// The places of memory, spare room too.

func textPlaces(s string) []any {
	var places []any
	for i := range len(s) {
		places = append(places, (*byte)(unsafe.Add(unsafe.Pointer(unsafe.StringData(s)), i)))
	}
	return places
}

func limbPlaces(a api.Int) []any {
	var places []any
	limbs := a.Mag[:cap(a.Mag)]
	for i := range limbs {
		places = append(places, &limbs[i])
	}
	return places
}

func namePlaces(names []string) []any {
	var places []any
	names = names[:cap(names)]
	for i := range names {
		places = append(append(places, &names[i]), textPlaces(names[i])...)
	}
	return places
}

func treePlaces(t api.Tree) []any {
	places := slices.Concat(textPlaces(t.Name), namePlaces(t.Names), limbPlaces(t.N))
	kids := t.Kids[:cap(t.Kids)]
	for i := range kids {
		places = append(append(places, &kids[i]), treePlaces(kids[i])...)
	}
	return places
}

func atomPlaces(x api.Atom) []any {
	places := slices.Concat(limbPlaces(x.D), limbPlaces(x.T.K))
	parts := x.T.Parts[:cap(x.T.Parts)]
	for i := range parts {
		places = append(append(places, &parts[i]), limbPlaces(parts[i].C)...)
	}
	return places
}

func wantApart(t *testing.T, what string, lists ...[]any) {
	t.Helper()
	seen := map[any]int{}
	for i, list := range lists {
		for _, place := range list {
			if first, is := seen[place]; is {
				t.Fatalf("%s: memory of list %d is shared with list %d", what, i, first)
			}
			seen[place] = i
		}
	}
}

// Answers are new memory, each list of its own, down to the names (R3).
func TestR3AnswersAreNew(t *testing.T) {
	d := &dice{state: 211}
	for range drawn / 5 {
		names := roomyNames(d.names(6))[:6:6]
		x := d.atom(3, 0, 5)
		x = api.Atom{Kind: x.Kind, D: roomyInt(x.D), T: roomyTerm(x.T)}
		for what, do := range map[string]func() (api.Tree, api.Errno){
			"Term": func() (api.Tree, api.Errno) { return raise.Term(x.T, names) }, "Atom": func() (api.Tree, api.Errno) { return raise.Atom(x, names) },
		} {
			one, e := do()
			two, _ := do()
			if e != api.OK {
				t.Fatalf("%s of %s: %v", what, tellAtom(x), e)
			}
			wantApart(t, what, atomPlaces(x), namePlaces(names), treePlaces(one), treePlaces(two))
		}
	}
	for range drawn / 50 {
		names := roomyNames(d.names(6))[:6:6]
		a, ids := d.grown(t, 10+d.roll(30), 0, 5, false)
		for _, id := range ids {
			if slowSize(a, id) > 300 {
				continue
			}
			one, e := raise.To(a, id, names)
			two, _ := raise.To(a, id, names)
			if e != api.OK {
				t.Fatalf("node %d: %v", id, e)
			}
			wantApart(t, "To", namePlaces(names), treePlaces(one), treePlaces(two))
		}
	}
}

func scribble(t api.Tree) {
	for i := range t.Kids[:cap(t.Kids)] {
		scribble(t.Kids[:cap(t.Kids)][i])
		t.Kids[:cap(t.Kids)][i] = v("spoilt")
	}
	for i := range t.Names[:cap(t.Names)] {
		t.Names[:cap(t.Names)][i] = "spoilt"
	}
	for i := range t.N.Mag[:cap(t.N.Mag)] {
		t.N.Mag[:cap(t.N.Mag)][i] = 0x5555
	}
}

// What is done to an argument or to an answer afterwards is seen nowhere else, in the arena neither.
func TestR3NothingIsKept(t *testing.T) {
	m := newMaker(t)
	x := api.Atom{Kind: api.Not, D: n(7, 7), T: api.Term{Parts: []api.Part{{Var: 0, C: n(1)}, {Var: 1, C: n(5, 5)}}, K: n(3, 3)}}
	y := less(api.Term{Parts: []api.Part{{Var: 0, C: below(n(5, 5))}, {Var: 1, C: n(9, 9)}}, K: below(n(1, 1))})
	id := m.some(0, m.and(m.atom(x), m.or(m.atom(y), m.all(1, m.atom(x)))))
	was, want := tellArena(m.a), ""
	for range 3 {
		names := []string{"x", "y"}
		var trees []api.Tree
		for _, do := range []func() (api.Tree, api.Errno){
			func() (api.Tree, api.Errno) { return raise.To(m.a, id, names) }, func() (api.Tree, api.Errno) { return raise.Atom(x, names) }, func() (api.Tree, api.Errno) { return raise.Atom(y, names) }, func() (api.Tree, api.Errno) { return raise.Term(y.T, names) },
		} {
			u, e := do()
			if e != api.OK {
				t.Fatal(e)
			}
			trees = append(trees, u)
		}
		names[0], names[1] = "y", "spoilt"
		whole := of(0, trees...)
		if want == "" {
			want = tellTree(whole)
		}
		if tellTree(whole) != want || tellArena(m.a) != was {
			t.Fatalf("%s, want %s", tellTree(whole), want)
		}
		scribble(whole)
	}
	// An answer stays as it is where the nodes are let go.
	u, _ := raise.To(m.a, id, []string{"x", "y"})
	told := tellTree(u)
	m.a.Release(2)
	m.less(8, 1, 1)
	if tellTree(u) != told {
		t.Errorf("%s, was %s", tellTree(u), told)
	}
}

// No answer hangs on what runs beside it, or ran ahead (R4); goroutines may look at one arena.
func TestR4WhateverElseRuns(t *testing.T) {
	const hands = 8
	d := &dice{state: 212}
	a, ids := d.grown(t, 150, -1, 5, false)
	names := d.names(7)
	var atoms []api.Atom
	for range 100 {
		atoms = append(atoms, d.atom(3, -1, 6))
	}
	row := func() string {
		var b strings.Builder
		tell := func(u api.Tree, e api.Errno) { b.WriteString(tellTree(u) + ", " + e.Error() + "\n") }
		for _, id := range ids {
			tell(raise.To(a, id, names))
		}
		for _, x := range atoms {
			tell(raise.Atom(x, names))
			tell(raise.Term(x.T, names))
		}
		return b.String()
	}
	wanted := row()
	var group sync.WaitGroup
	var got [hands]string
	for hand := range hands {
		group.Go(func() { got[hand] = row() })
	}
	group.Wait()
	for hand := range hands {
		if got[hand] != wanted {
			t.Fatal("answers differ where others run")
		}
	}
}

// A meter that is over, or an arena that is full, matters to nothing: nothing is made, and nothing is counted.
func TestR6NothingIsMade(t *testing.T) {
	m := newMaker(t)
	id := m.some(1, m.and(m.less(0, 1, 1), m.atom(not(3, of1(0)))))
	m.a.Meter().Spend(2000 - m.a.Meter().Spent())
	m.wantText(id, "x", "some v1 . 0 < x + v1 and not 3 divides x")
	if e := m.a.Meter().Spend(1); e != api.ErrNodes {
		t.Fatalf("the meter: %v", e)
	}
	m.wantText(id, "x", "some v1 . 0 < x + v1 and not 3 divides x")
	m.wantNone(id, nil, api.ErrFree)
}
