package syntax_test

import (
	"slices"
	"strconv"
	"strings"
	"sync"
	"testing"
	"unsafe"

	"riddle/api"
	"riddle/syntax"
)

const spare = 3

// roomy is a tree with marked spare room behind each of its lists.
func roomy(t api.Tree) api.Tree {
	t.Names = append(slices.Clone(t.Names), slices.Repeat([]string{"spare"}, spare)...)[:len(t.Names)]
	t.N.Mag = append(slices.Clone(t.N.Mag), slices.Repeat([]uint32{0xabcd}, spare)...)[:len(t.N.Mag)]
	kids := slices.Clone(t.Kids)
	for i := range kids {
		kids[i] = roomy(kids[i])
	}
	t.Kids = append(kids, slices.Repeat([]api.Tree{v("spare")}, spare)...)[:len(kids)]
	return t
}

// tellRoom is tell, with the spare room of all lists.
func tellRoom(t api.Tree) string {
	text := strconv.Itoa(t.Kind) + t.Name + strings.Join(t.Names[:cap(t.Names)], ",") + strconv.FormatBool(t.N.Neg)
	for _, limb := range t.N.Mag[:cap(t.N.Mag)] {
		text += "'" + strconv.FormatUint(uint64(limb), 10)
	}
	for _, kid := range t.Kids[:cap(t.Kids)] {
		text += "(" + tellRoom(kid) + ")"
	}
	return text
}

// cells calls f with the place of each thing that a tree has in memory, spare room too: kids, names, their bytes, limbs.
func cells(t api.Tree, f func(place any)) {
	kids := t.Kids[:cap(t.Kids)]
	for i := range kids {
		f(&kids[i])
		cells(kids[i], f)
	}
	limbs := t.N.Mag[:cap(t.N.Mag)]
	for i := range limbs {
		f(&limbs[i])
	}
	nameCells(t.Names, f)
	textCells(t.Name, f)
}

func nameCells(names []string, f func(place any)) {
	names = names[:cap(names)]
	for i := range names {
		f(&names[i])
		textCells(names[i], f)
	}
}

func textCells(s string, f func(place any)) {
	for i := range len(s) {
		f((*byte)(unsafe.Add(unsafe.Pointer(unsafe.StringData(s)), i)))
	}
}

// owners tells of places that come twice.
type owners struct {
	t    *testing.T
	seen map[any]string
}

func (o owners) own(what string) func(place any) {
	return func(place any) {
		if first, ok := o.seen[place]; ok {
			o.t.Errorf("%s shares memory with %s", what, first)
		}
		o.seen[place] = what
	}
}

func apart(t *testing.T) owners { return owners{t, map[any]string{}} }

// clone is a tree with texts of its own.
func clone(t api.Tree) api.Tree {
	t.Name = strings.Clone(t.Name)
	t.Names = slices.Clone(t.Names)
	for i := range t.Names {
		t.Names[i] = strings.Clone(t.Names[i])
	}
	t.N.Mag = slices.Clone(t.N.Mag)
	t.Kids = slices.Clone(t.Kids)
	for i := range t.Kids {
		t.Kids[i] = clone(t.Kids[i])
	}
	return t
}

const shared = "some x x y . 18446744073709551617 * x < y + 4294967297 and 4294967297 divides x and (all x . x = 7) and x < 7 or z < 7"

func TestR3ParseIsNew(t *testing.T) {
	for _, text := range []string{shared, "x<x", "true", "some n n n n n . n = 4294967296"} {
		text = strings.Clone(text)
		o := apart(t)
		textCells(text, o.own("the text"))
		for range 2 {
			u, m := syntax.Parse(text)
			if m.Code != api.OK {
				t.Fatal(m)
			}
			cells(u, o.own("a tree"))
		}
	}
}

func TestR3CopyIsNew(t *testing.T) {
	d := &dice{state: 31}
	for range 300 {
		for _, u := range []api.Tree{clone(d.wild(4)), clone(d.formula(4))} {
			o := apart(t)
			cells(u, o.own("what is handed in"))
			cells(syntax.Copy(u), o.own("a copy"))
			cells(syntax.Copy(u), o.own("another copy"))
		}
	}
}

// What hangs at several places of what is handed in is copied for each of them.
func TestR3CopyOfOneListAtManyPlaces(t *testing.T) {
	kids := []api.Tree{below1("x"), {Kind: api.TreeSome, Names: []string{"y", "z"}, N: n(5, 6), Kids: []api.Tree{yes()}}}
	low := api.Tree{Kind: api.TreeAnd, Kids: kids}
	u := or(low, not(low), of(api.TreeAnd, kids[:1]...), low)
	got := syntax.Copy(u)
	cells(got, apart(t).own("a copy"))
	if tell(got) != tell(u) {
		t.Error(tell(got))
	}
	got.Kids[0].Kids[0].Kids[0].Name = "w"
	if got.Kids[3].Kids[0].Kids[0].Name != "x" || kids[0].Kids[0].Name != "x" {
		t.Error("a change is seen elsewhere")
	}
}

func TestR3FreeIsNew(t *testing.T) {
	u := clone(and(below1("x"), below1("yy"), below1("x"), some("z", lt(v("z"), v("zz")))))
	o := apart(t)
	cells(u, o.own("what is handed in"))
	for range 2 {
		names := syntax.Free(u)
		if strings.Join(names, " ") != "x yy zz" {
			t.Error(names)
		}
		nameCells(names, o.own("the names"))
	}
}

func TestR3ArgumentsStay(t *testing.T) {
	d := &dice{state: 32}
	for range 300 {
		for _, u := range []api.Tree{d.wild(4), d.formula(4), d.spoilt(d.formula(3))} {
			u = roomy(u)
			was := tellRoom(u)
			syntax.Check(u)
			syntax.Print(u)
			syntax.Same(u, u)
			syntax.Same(u, roomy(u))
			syntax.Copy(u)
			syntax.Free(u)
			syntax.Size(u)
			if tellRoom(u) != was {
				t.Errorf("%s was changed", was)
			}
		}
	}
}

// What is done to an argument or to an answer afterwards is seen nowhere else.
func TestR3NothingIsKept(t *testing.T) {
	for range 3 {
		u, _ := syntax.Parse(shared)
		text, _ := syntax.Print(u)
		copied, free := syntax.Copy(u), syntax.Free(u)
		if again, _ := syntax.Print(copied); again != text || text != shared || len(free) != 1 || free[0] != "z" {
			t.Fatal(again, text, free)
		}
		for _, tree := range []api.Tree{u, copied} {
			scribble(tree)
		}
		free[0] = "spoilt"
	}
}

func scribble(t api.Tree) {
	for i := range t.Kids[:cap(t.Kids)] {
		scribble(t.Kids[:cap(t.Kids)][i])
		t.Kids[:cap(t.Kids)][i] = v("spoilt")
	}
	for i := range t.Names[:cap(t.Names)] {
		t.Names[:cap(t.Names)][i] = "spoilt"
	}
	for i := range t.N.Mag[:cap(t.N.Mag)] {
		t.N.Mag[:cap(t.N.Mag)][i] = 0x5555
	}
}

// Beside an error all else is zero, and no place stands beside none.
func TestR2BesideErrors(t *testing.T) {
	for _, text := range []string{"", "x < 1 and", "x < 1 x", "x < 1 and 0 divides x", "x < 1 #", strings.Repeat("not ", 60) + "x < 1", "x < 1" + strings.Repeat(" ", 4092), "some x y . x < 1 )"} {
		u, m := syntax.Parse(text)
		if m.Code == api.OK || u.Kind != 0 || u.Name != "" || len(u.Names) > 0 || u.N.Neg || len(u.N.Mag) > 0 || len(u.Kids) > 0 {
			t.Errorf("Parse(%q): %s %v", text, tell(u), m)
		}
	}
	for _, u := range []api.Tree{{}, and(yes(), v("x")), and(yes(), divides(0, num())), over(60, yes(), not), and(slices.Repeat([]api.Tree{yes()}, 1000)...)} {
		if text, e := syntax.Print(u); text != "" || e == api.OK {
			t.Errorf("Print: %q %v", text, e)
		}
	}
	if _, m := syntax.Parse("  x < 1  "); m != (api.Mishap{}) {
		t.Error("a place beside no error", m)
	}
}

// A text that is given up spoils no later one, nor one that is read at the same time.
func TestR4WhateverElseRuns(t *testing.T) {
	texts := []string{shared, "x < 1 x", "", "0 divides x", "true", strings.Repeat("not ", 60) + "true"}
	answer := func(text string) string {
		u, m := syntax.Parse(text)
		s, e := syntax.Print(u)
		return tell(u) + m.Code.Error() + strconv.Itoa(m.At) + s + e.Error() + syntax.Check(u).Error() + strings.Join(syntax.Free(u), ",") + tell(syntax.Copy(u)) + strconv.Itoa(syntax.Size(u))
	}
	var want []string
	for _, text := range texts {
		want = append(want, answer(text))
	}
	var group sync.WaitGroup
	for range 8 {
		group.Go(func() {
			for i := range 300 {
				if got := answer(texts[i%len(texts)]); got != want[i%len(texts)] {
					t.Errorf("%q: %s, want %s", texts[i%len(texts)], got, want[i%len(texts)])
				}
			}
		})
	}
	group.Wait()
}

// The order of free names does not hang on the map that they may stand in.
func TestR4FreeIsSorted(t *testing.T) {
	row := and()
	var want []string
	for i := range 200 {
		want = append(want, "n"+strconv.Itoa(i))
		row.Kids = append(row.Kids, below1(want[i]))
	}
	slices.Sort(want)
	for range 20 {
		if got := syntax.Free(row); !slices.Equal(got, want) {
			t.Fatal(got)
		}
	}
}
