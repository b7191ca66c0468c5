package store_test

import (
	"slices"
	"strconv"
	"strings"
	"testing"

	"riddle/api"
	"riddle/store"
	"riddle/syntax"
)

// The chapter's examples, one behind the other.
func TestExamples(t *testing.T) {
	s := store.New()
	wantPut(t, s, "f", read("x < 1"), api.OK)
	wantPut(t, s, "and", read("true"), api.ErrName)
	wantPut(t, s, "", read("true"), api.ErrName)
	wantPut(t, s, "g", num(n(1)), api.ErrArg)
	wantCounts(t, s, 1, 3)
	wantGet(t, s, "f", below1("x"))
	wantNone(t, s, "g")
	wantDrop(t, s, "g", api.ErrUnknown)
	wantCounts(t, s, 1, 3)
	wantPut(t, s, "f", read("true"), api.OK)
	wantCounts(t, s, 1, 1)
	wantNames(t, s, "f")
	wantDrop(t, s, "f", api.OK)
	wantCounts(t, s, 0, 0)
}

func TestP221New(t *testing.T) {
	s := store.New()
	if s == nil {
		t.Fatal("no store")
	}
	wantCounts(t, s, 0, 0)
	wantNames(t, s)
	wantNone(t, s, "f")
	wantNone(t, s, "")
	wantDrop(t, s, "f", api.ErrUnknown)
}

func TestP221NotAName(t *testing.T) {
	s := store.New()
	wantPut(t, s, "f", below1("x"), api.OK)
	for _, name := range wrongNames() {
		wantPut(t, s, name, yes(), api.ErrName)
		wantNone(t, s, name)
		wantDrop(t, s, name, api.ErrUnknown)
	}
	for _, name := range []string{"a", "Z", "a_", "a1", "And", "ands", "SOME", "x" + strings.Repeat("_", mostBytes-1)} {
		wantPut(t, s, name, yes(), api.OK)
	}
	wantCounts(t, s, 9, 3+8)
}

func TestP221TreesThatMayNotBe(t *testing.T) {
	s := store.New()
	for _, there := range []bool{false, true} {
		for _, l := range wrongTrees() {
			if e := syntax.Check(l.t); e != l.e {
				t.Fatalf("%s is checked: %v", short(tell(l.t)), e)
			}
			wantPut(t, s, "f", l.t, l.e)
		}
		if !there {
			wantPut(t, s, "f", over(mostDeep-1, yes(), not), api.OK)
		}
	}
	wantCounts(t, s, 1, mostDeep)
}

// What is no name is told ahead of the tree's own errors, these ahead of ErrStore; and one by one, where all would apply.
func TestP221OrderOfErrors(t *testing.T) {
	full, nodes := store.New(), store.New()
	for i := range mostNames {
		wantPut(t, full, "n"+strconv.Itoa(i), yes(), api.OK)
	}
	wantPut(t, nodes, "n", wide(mostNodes), api.OK)
	great := and(slices.Repeat([]api.Tree{yes()}, mostNodes)...)
	wrong := append(wrongTrees(), struct {
		t api.Tree
		e api.Errno
	}{and(append(slices.Repeat([]api.Tree{yes()}, mostNodes), v("x"))...), api.ErrArg})
	for _, s := range []*store.Store{store.New(), full, nodes} {
		for _, l := range wrong {
			wantPut(t, s, "and", l.t, api.ErrName)
			wantPut(t, s, "", l.t, api.ErrName)
			wantPut(t, s, "another", l.t, l.e)
			wantPut(t, s, "n", l.t, l.e)
		}
		wantPut(t, s, "and", great, api.ErrName)
		wantPut(t, s, "another", great, api.ErrStore)
	}
	wantPut(t, full, "and", yes(), api.ErrName)
	wantPut(t, full, "another", yes(), api.ErrStore)
	wantPut(t, nodes, "", yes(), api.ErrName)
	wantPut(t, nodes, "another", yes(), api.ErrStore)
}

func TestP222GetAndDrop(t *testing.T) {
	s := store.New()
	f, g := read("some x y . 18446744073709551617 * x < -y and 3 divides x - (y + 1) or not z >= 2"), read("all x . x < y iff true")
	wantPut(t, s, "f", f, api.OK)
	wantNone(t, s, "g")
	wantNone(t, s, "F")
	wantNone(t, s, "ff")
	wantDrop(t, s, "g", api.ErrUnknown)
	wantPut(t, s, "g", g, api.OK)
	wantGet(t, s, "f", f)
	wantGet(t, s, "g", g)
	wantDrop(t, s, "f", api.OK)
	wantDrop(t, s, "f", api.ErrUnknown)
	wantGet(t, s, "g", g)
	wantPut(t, s, "f", g, api.OK)
	wantGet(t, s, "f", g)
	wantPut(t, s, "g", f, api.OK)
	wantGet(t, s, "f", g)
	wantDrop(t, s, "f", api.OK)
	wantGet(t, s, "g", f)
	wantCounts(t, s, 1, sizeOf(f))
	wantDrop(t, s, "g", api.OK)
	wantCounts(t, s, 0, 0)
}

// What is got is the tree that was put, of whatever make.
func TestP224GotAsPut(t *testing.T) {
	d := &dice{state: 221}
	s := store.New()
	for range 2000 {
		f := d.formula(1 + d.roll(5))
		wantPut(t, s, "f", f, api.OK)
		if got, _ := s.Get("f"); !syntax.Same(got, f) {
			t.Fatalf("got %s, put %s", tell(got), tell(f))
		}
		wantCounts(t, s, 1, sizeOf(f))
	}
}

// Fields that are empty, but not nil, are as nil ones.
func TestP224EmptyLists(t *testing.T) {
	f := api.Tree{Kind: api.TreeTrue, Names: []string{}, N: api.Int{Mag: []uint32{}}, Kids: []api.Tree{}}
	s := store.New()
	wantPut(t, s, "f", f, api.OK)
	wantCounts(t, s, 1, 1)
	if got, _ := s.Get("f"); !syntax.Same(got, yes()) {
		t.Error(tell(got))
	}
}
