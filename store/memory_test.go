package store_test

import (
	"slices"
	"strconv"
	"strings"
	"sync"
	"testing"
	"time"
	"unsafe"

	"riddle/api"
	"riddle/store"
)

const spare = 3

// roomy is a tree in memory of its own, texts too, with marked spare room behind each of its lists.
func roomy(t api.Tree) api.Tree {
	t.Name = strings.Clone(t.Name)
	names := slices.Clone(t.Names)
	for i := range names {
		names[i] = strings.Clone(names[i])
	}
	t.Names = append(names, slices.Repeat([]string{"spare"}, spare)...)[:len(names)]
	t.N.Mag = append(slices.Clone(t.N.Mag), slices.Repeat([]uint32{0xabcd}, spare)...)[:len(t.N.Mag)]
	kids := slices.Clone(t.Kids)
	for i := range kids {
		kids[i] = roomy(kids[i])
	}
	t.Kids = append(kids, slices.Repeat([]api.Tree{v("spare")}, spare)...)[:len(kids)]
	return t
}

// tellRoom is a tree with the spare room of all lists.
func tellRoom(t api.Tree) string {
	text := strconv.Itoa(t.Kind) + t.Name + strings.Join(t.Names[:cap(t.Names)], ",") + strconv.FormatBool(t.N.Neg)
	for _, limb := range t.N.Mag[:cap(t.N.Mag)] {
		text += "'" + strconv.FormatUint(uint64(limb), 10)
	}
	for _, kid := range t.Kids[:cap(t.Kids)] {
		text += "(" + tellRoom(kid) + ")"
	}
	return text
}

// scribble overwrites all lists of a tree, spare room too.
func scribble(t api.Tree) {
	for i := range t.Kids[:cap(t.Kids)] {
		scribble(t.Kids[:cap(t.Kids)][i])
		t.Kids[:cap(t.Kids)][i] = v("spoilt")
	}
	for i := range t.Names[:cap(t.Names)] {
		t.Names[:cap(t.Names)][i] = "spoilt"
	}
	for i := range t.N.Mag[:cap(t.N.Mag)] {
		t.N.Mag[:cap(t.N.Mag)][i] = 0x5555
	}
}

// The places of memory.

func textPlaces(s string) []any {
	var places []any
	for i := range len(s) {
		places = append(places, (*byte)(unsafe.Add(unsafe.Pointer(unsafe.StringData(s)), i)))
	}
	return places
}

func treePlaces(t api.Tree) []any {
	places := textPlaces(t.Name)
	limbs := t.N.Mag[:cap(t.N.Mag)]
	for i := range limbs {
		places = append(places, &limbs[i])
	}
	names := t.Names[:cap(t.Names)]
	for i := range names {
		places = append(append(places, &names[i]), textPlaces(names[i])...)
	}
	kids := t.Kids[:cap(t.Kids)]
	for i := range kids {
		places = append(append(places, &kids[i]), treePlaces(kids[i])...)
	}
	return places
}

// rich has lists, names and long numbers.
func rich() api.Tree {
	return read("some x x y . 18446744073709551617 * x < y + 4294967297 and 4294967297 divides x and (all x . x = 7) and x < 7 or z < 7")
}

// What is handed to Put is neither changed nor kept; what is done with it, or with what Get answered, changes nothing that is
// kept, and nothing that is answered later.
func TestR3(t *testing.T) {
	d := &dice{state: 224}
	s := store.New()
	wantPut(t, s, "rich", rich(), api.OK)
	for range 1000 {
		f := roomy(d.formula(1 + d.roll(5)))
		was, wanted := tellRoom(f), tell(f)
		if e := s.Put("f", f); e != api.OK || tellRoom(f) != was {
			t.Fatalf("Put: %v: %s, was %s", e, tellRoom(f), was)
		}
		one, _ := s.Get("f")
		two, _ := s.Get("f")
		scribble(f)
		if tell(one) != wanted || tell(two) != wanted {
			t.Fatalf("what was put is kept: %s, want %s", tell(one), wanted)
		}
		scribble(one)
		if tell(two) != wanted {
			t.Fatalf("an answer is kept: %s, want %s", tell(two), wanted)
		}
		three, _ := s.Get("f")
		if tell(three) != wanted || s.Nodes() != sizeOf(rich())+sizeOf(three) {
			t.Fatalf("an answer is kept: %s, want %s", tell(three), wanted)
		}
	}
	wantGet(t, s, "rich", rich())
}

// A tree that is refused isn't changed either, of whatever kind it is.
func TestR3Refused(t *testing.T) {
	s := full(t)
	for _, l := range append(wrongTrees(), struct {
		t api.Tree
		e api.Errno
	}{rich(), api.ErrStore}) {
		f := roomy(l.t)
		was := tellRoom(f)
		for _, name := range []string{"another", "and"} {
			s.Put(name, f)
		}
		if tellRoom(f) != was {
			t.Errorf("%s was changed", was)
		}
	}
}

// What Get answers and what Names tells are new memory each time, and share none with what was handed in, or within themselves.
func TestR3AnswersAreNew(t *testing.T) {
	d := &dice{state: 225}
	for range 300 {
		f := roomy(d.formula(1 + d.roll(5)))
		name, again := strings.Clone("name_of_it"), strings.Clone("name_of_it")
		s := store.New()
		seen := map[any]struct{}{}
		// What is handed in has one text in the spare room of several lists.
		for _, place := range slices.Concat(textPlaces(name), textPlaces(again), treePlaces(f)) {
			seen[place] = struct{}{}
		}
		var places []any
		for _, put := range []string{name, again} {
			s.Put(put, f)
			for range 2 {
				got, _ := s.Get(again)
				places = append(places, treePlaces(got)...)
				for told := range s.Names() {
					places = append(places, textPlaces(told)...)
				}
			}
		}
		for _, place := range places {
			if _, is := seen[place]; is {
				t.Fatalf("%s: memory is shared", tell(f))
			}
			seen[place] = struct{}{}
		}
	}
}

// The text of a name may be cut out of memory that its owner writes to afterwards.
func TestR3TheNameIsNotKept(t *testing.T) {
	bytes := []byte("abc")
	s := store.New()
	s.Put(unsafe.String(&bytes[0], len(bytes)), yes())
	s.Put(unsafe.String(&bytes[0], len(bytes)), no())
	copy(bytes, "xyz")
	wantNames(t, s, "abc")
	wantGet(t, s, "abc", no())
	wantNone(t, s, "xyz")
	wantDrop(t, s, "abc", api.OK)
}

// One list at several places is put, and got, as so many lists.
func TestR3OneListAtManyPlaces(t *testing.T) {
	kids := []api.Tree{below1("x"), some(divides(n(5, 6), v("x")), "y", "z")}
	low := of(api.TreeAnd, kids...)
	f := of(api.TreeOr, low, not(low), low)
	s := store.New()
	wantPut(t, s, "f", f, api.OK)
	wantPut(t, s, "g", low, api.OK)
	got, _ := s.Get("f")
	got.Kids[0].Kids[0].Kids[0].Name = "w"
	if got.Kids[2].Kids[0].Kids[0].Name != "x" || kids[0].Kids[0].Name != "x" {
		t.Error("a change is seen elsewhere")
	}
	kids[1].Names[0] = "w"
	wantGet(t, s, "g", and(below1("x"), some(divides(n(5, 6), v("x")), "y", "z")))
	wantCounts(t, s, 2, sizeOf(f)+sizeOf(low))
}

// Two stores have nothing in common.
func TestR3TwoStores(t *testing.T) {
	one, two := store.New(), store.New()
	wantPut(t, one, "f", yes(), api.OK)
	wantNone(t, two, "f")
	wantCounts(t, two, 0, 0)
	wantPut(t, two, "f", no(), api.OK)
	wantGet(t, one, "f", yes())
	f, _ := one.Get("f")
	wantPut(t, two, "g", f, api.OK)
	wantDrop(t, one, "f", api.OK)
	wantGet(t, two, "g", yes())
	wantPut(t, one, "g", wide(mostNodes), api.OK)
	wantPut(t, two, "h", wide(mostNodes-2), api.OK)
	wantNames(t, one, "g")
	wantNames(t, two, "f", "g", "h")
	wantCounts(t, one, 1, mostNodes)
	wantCounts(t, two, 3, mostNodes)
}

// Without a store every call answers, and does nothing.
func TestR1NoStore(t *testing.T) {
	var s *store.Store
	for range 2 {
		for _, name := range []string{"f", "and", ""} {
			for _, f := range []api.Tree{yes(), {}, wide(mostNodes + 1)} {
				if e := s.Put(name, f); e != api.ErrArg {
					t.Errorf("Put(%q): %v", name, e)
				}
			}
			wantNone(t, s, name)
			if e := s.Drop(name); e != api.ErrArg {
				t.Errorf("Drop(%q): %v", name, e)
			}
		}
		wantCounts(t, s, 0, 0)
		names := s.Names()
		if names == nil {
			t.Fatal("Names: nil")
		}
		for name := range names {
			t.Errorf("Names tells %q", name)
		}
	}
}

// soonPut is what Put answers, unless that takes very long: what goes every way down would go on for ever.
func soonPut(t *testing.T, s *store.Store, what string, f api.Tree) api.Errno {
	t.Helper()
	done := make(chan api.Errno, 1)
	go func() { done <- s.Put("f", f) }()
	select {
	case e := <-done:
		return e
	case <-time.After(60 * time.Second):
		t.Fatalf("Put of %s doesn't end", what)
	}
	return api.OK
}

// Trees that have no end, that are very deep, very wide, or have one list at more places than could be gone to.
func TestR1AnyTree(t *testing.T) {
	const levels = 1 << 16
	twice := func(f api.Tree) api.Tree { return and(f, f) }
	kids := make([]api.Tree, 2)
	kids[0], kids[1] = below1("x"), of(api.TreeAnd, kids...)
	row := make([]api.Tree, 1)
	row[0] = some(below1("x"), "x")
	row[0].Kids = row
	s := store.New()
	for _, l := range []struct {
		what string
		t    api.Tree
		e    api.Errno
	}{
		{"an and within itself", of(api.TreeAnd, kids...), api.ErrDepth}, {"a some within itself", row[0], api.ErrDepth}, {"deep", over(levels, below1("x"), not), api.ErrDepth}, {"deep and wrong", over(levels, v("x"), not), api.ErrArg},
		{"twice at each level", over(mostDeep-2, below1("x"), twice), api.ErrStore}, {"twice at each of ten levels", over(9, below1("x"), twice), api.OK}, {"twice at each of eleven levels", over(10, below1("x"), twice), api.ErrStore}, {"twice, too deep", over(mostDeep-1, below1("x"), twice), api.ErrDepth},
		{"wide", and(slices.Repeat([]api.Tree{below1("x")}, 300000)...), api.ErrStore}, {"many names", some(yes(), slices.Repeat([]string{"x", "y"}, 60000)...), api.OK}, {"a long number", divides(n(slices.Repeat([]uint32{7}, 1<<20)...), v("x")), api.OK}, {"no kind", over(levels, yes(), func(f api.Tree) api.Tree { return of(0, f) }), api.ErrArg},
	} {
		if e := soonPut(t, s, l.what, l.t); e != l.e {
			t.Errorf("%s: %v, want %v", l.what, e, l.e)
		}
		if l.e == api.OK {
			wantGet(t, s, "f", l.t)
		}
		wantDrop(t, s, "f", map[bool]api.Errno{true: api.OK, false: api.ErrUnknown}[l.e == api.OK])
	}
	wantCounts(t, s, 0, 0)
}

// Names of all kinds are looked for and dropped; nothing has them.
func TestR1AnyName(t *testing.T) {
	s := store.New()
	for _, name := range append(wrongNames(), strings.Repeat("n", 1<<20), strings.Repeat("\x00", 1<<16)) {
		wantPut(t, s, name, yes(), api.ErrName)
		wantNone(t, s, name)
		wantDrop(t, s, name, api.ErrUnknown)
	}
}

// The same calls answer the same, whatever runs beside them; and what asks may ask one store from many sides.
func TestR4WhateverElseRuns(t *testing.T) {
	const hands = 8
	d := &dice{state: 226}
	var calls []step
	for range 400 {
		calls = append(calls, d.step(44, 90))
	}
	all := func() string {
		s := store.New()
		var texts []string
		for _, c := range calls {
			texts = append(texts, c.ask(s))
		}
		return strings.Join(texts, "\n")
	}
	wanted := all()
	one := store.New()
	for i := range mostNames {
		wantPut(t, one, "n"+strconv.Itoa(i), rich(), api.OK)
	}
	look := func() string {
		text := strings.Join(gone(one), " ") + strconv.Itoa(one.Nodes()) + strconv.Itoa(one.Len())
		for i := range mostNames + 1 {
			text += tellGot(one.Get("n" + strconv.Itoa(i)))
		}
		return text
	}
	looked := look()
	var group sync.WaitGroup
	var got, seen [hands]string
	for hand := range hands {
		group.Go(func() { got[hand], seen[hand] = all(), look() })
	}
	group.Wait()
	for hand := range hands {
		if got[hand] != wanted || seen[hand] != looked {
			t.Fatal("answers differ where others run")
		}
	}
}
