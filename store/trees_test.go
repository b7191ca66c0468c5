package store_test

import (
	"slices"
	"strconv"
	"strings"
	"testing"

	"riddle/api"
	"riddle/store"
	"riddle/syntax"
)

// Trees are made here by short calls; sizes and texts are reckoned here, too.

const (
	mostNodes = 3000
	mostNames = 40
	mostDeep  = 60
	mostBytes = 24
)

func n(limbs ...uint32) api.Int { return api.Int{Mag: limbs} }

func num(k api.Int) api.Tree { return api.Tree{Kind: api.TreeNum, N: k} }

func v(name string) api.Tree { return api.Tree{Kind: api.TreeVar, Name: name} }

func of(kind int, kids ...api.Tree) api.Tree { return api.Tree{Kind: kind, Kids: kids} }

func yes() api.Tree { return of(api.TreeTrue) }

func no() api.Tree { return of(api.TreeFalse) }

// below1 is `name < 1`.
func below1(name string) api.Tree { return of(api.TreeLt, v(name), num(n(1))) }

func not(f api.Tree) api.Tree { return of(api.TreeNot, f) }

func and(l ...api.Tree) api.Tree { return of(api.TreeAnd, l...) }

func divides(k api.Int, t api.Tree) api.Tree {
	return api.Tree{Kind: api.TreeDivides, N: k, Kids: []api.Tree{t}}
}

func some(f api.Tree, names ...string) api.Tree {
	return api.Tree{Kind: api.TreeSome, Names: names, Kids: []api.Tree{f}}
}

// over puts a tree below so many others of one kid.
func over(times int, t api.Tree, put func(api.Tree) api.Tree) api.Tree {
	for range times {
		t = put(t)
	}
	return t
}

// wide is a formula of just so many trees, but two.
func wide(size int) api.Tree {
	if size == 1 {
		return yes()
	}
	return and(slices.Repeat([]api.Tree{yes()}, size-1)...)
}

func read(text string) api.Tree {
	t, wrong := syntax.Parse(text)
	if wrong.Code != api.OK {
		panic("not read: " + text)
	}
	return t
}

// tell is a tree as it stands, field by field, so that what differs in anything is told otherwise.
func tell(t api.Tree) string {
	var b strings.Builder
	tellTo(&b, t)
	return b.String()
}

func tellTo(b *strings.Builder, t api.Tree) {
	b.WriteString(strconv.Itoa(t.Kind) + strconv.Quote(t.Name))
	for _, name := range t.Names {
		b.WriteString("," + strconv.Quote(name))
	}
	if t.N.Neg {
		b.WriteString("-")
	}
	for _, limb := range t.N.Mag {
		b.WriteString("'" + strconv.FormatUint(uint64(limb), 10))
	}
	for _, kid := range t.Kids {
		b.WriteString("(")
		tellTo(b, kid)
		b.WriteString(")")
	}
}

// sizeOf is how many trees a tree is made of.
func sizeOf(t api.Tree) int {
	size := 1
	for _, kid := range t.Kids {
		size += sizeOf(kid)
	}
	return size
}

func short(text string) string {
	if len(text) > 200 {
		return text[:200] + ".."
	}
	return text
}

// gone is what Names tells.
func gone(s *store.Store) []string {
	var names []string
	for name := range s.Names() {
		names = append(names, name)
	}
	return names
}

// state is all that a store tells, and what every way of telling it says is told.
func state(t *testing.T, s *store.Store) string {
	t.Helper()
	text, nodes, names := "", 0, gone(s)
	for _, name := range names {
		f, is := s.Get(name)
		if !is {
			t.Fatalf("%q is told by Names, and isn't got", name)
		}
		nodes += sizeOf(f)
		text += name + ": " + tell(f) + "\n"
	}
	if s.Len() != len(names) || s.Nodes() != nodes {
		t.Fatalf("Len %d, Nodes %d; %d are told, of %d trees", s.Len(), s.Nodes(), len(names), nodes)
	}
	return text
}

func wantPut(t *testing.T, s *store.Store, name string, f api.Tree, want api.Errno) {
	t.Helper()
	was := state(t, s)
	if e := s.Put(name, f); e != want {
		t.Fatalf("Put(%q, %s): %v, want %v", name, short(tell(f)), e, want)
	}
	if want != api.OK && state(t, s) != was {
		t.Fatalf("Put(%q, %s): what is refused has changed something", name, short(tell(f)))
	}
	if want == api.OK {
		wantGet(t, s, name, f)
	}
}

func wantGet(t *testing.T, s *store.Store, name string, want api.Tree) {
	t.Helper()
	if f, is := s.Get(name); !is || tell(f) != tell(want) {
		t.Fatalf("Get(%q): %s, %t, want %s", name, short(tell(f)), is, short(tell(want)))
	}
}

func wantNone(t *testing.T, s *store.Store, name string) {
	t.Helper()
	if f, is := s.Get(name); is || tell(f) != tell(api.Tree{}) || f.Names != nil || f.N.Mag != nil || f.Kids != nil {
		t.Fatalf("Get(%q): %s, %t, want none", name, short(tell(f)), is)
	}
}

func wantDrop(t *testing.T, s *store.Store, name string, want api.Errno) {
	t.Helper()
	was := state(t, s)
	if e := s.Drop(name); e != want {
		t.Fatalf("Drop(%q): %v, want %v", name, e, want)
	}
	wantNone(t, s, name)
	if want != api.OK && state(t, s) != was {
		t.Fatalf("Drop(%q): what is refused has changed something", name)
	}
}

func wantNames(t *testing.T, s *store.Store, want ...string) {
	t.Helper()
	if got := gone(s); !slices.Equal(got, want) {
		t.Fatalf("Names: %q, want %q", got, want)
	}
}

func wantCounts(t *testing.T, s *store.Store, length, nodes int) {
	t.Helper()
	if s.Len() != length || s.Nodes() != nodes {
		t.Fatalf("Len %d, Nodes %d, want %d and %d", s.Len(), s.Nodes(), length, nodes)
	}
}

// dice are calls that look drawn, and are the same ones each time.
type dice struct{ state uint64 }

func (d *dice) roll(n int) int {
	d.state = d.state*6364136223846793005 + 1442695040888963407
	return int(d.state>>33) % n
}

func (d *dice) number() api.Int {
	return []api.Int{{}, n(1), n(2), n(0, 1), n(5, 0, 9)}[d.roll(5)]
}

func (d *dice) term(most int) api.Tree {
	kind := d.roll(5)
	if most == 1 {
		kind %= 2
	}
	switch kind {
	case 0:
		return num(d.number())
	case 1:
		return v([]string{"x", "y", "z_1"}[d.roll(3)])
	case 2:
		return of(api.TreeNeg, d.term(most-1))
	case 3:
		return of(api.TreeAdd+d.roll(2), d.term(most-1), d.term(most-1))
	}
	return api.Tree{Kind: api.TreeMul, N: d.number(), Kids: []api.Tree{d.term(most - 1)}}
}

// formula is one that may be, of at most that depth.
func (d *dice) formula(most int) api.Tree {
	kind := d.roll(6)
	if most <= 2 {
		kind = 0
	}
	switch {
	case most == 1:
		return of(api.TreeTrue + d.roll(2))
	case kind == 0:
		return of(api.TreeLt+d.roll(6), d.term(most-1), d.term(most-1))
	case kind == 1:
		return divides(n(uint32(1+d.roll(5))), d.term(most-1))
	case kind == 2:
		return not(d.formula(most - 1))
	case kind == 3:
		return some(d.formula(most-1), []string{"x", "y", "x"}[:1+d.roll(3)]...)
	}
	f := of(api.TreeAnd+d.roll(2), d.formula(most-1), d.formula(most-1))
	for d.roll(3) == 0 {
		f.Kids = append(f.Kids, d.formula(most-1))
	}
	return f
}

// wrongTrees are such as may not be, with syntax's error of each.
func wrongTrees() []struct {
	t api.Tree
	e api.Errno
} {
	deep := over(mostDeep-1, yes(), not)
	return []struct {
		t api.Tree
		e api.Errno
	}{
		{api.Tree{}, api.ErrArg}, {num(api.Int{}), api.ErrArg}, {num(n(7)), api.ErrArg}, {v("x"), api.ErrArg}, {of(api.TreeAll+1, yes()), api.ErrArg}, {of(-1), api.ErrArg},
		{and(), api.ErrArg}, {and(yes()), api.ErrArg}, {and(yes(), v("x")), api.ErrArg}, {of(api.TreeTrue, yes()), api.ErrArg}, {of(api.TreeLt, v("x")), api.ErrArg}, {of(api.TreeLt, v("x"), yes()), api.ErrArg},
		{below1(""), api.ErrArg}, {below1("and"), api.ErrArg}, {some(yes()), api.ErrArg}, {some(yes(), "x", ""), api.ErrArg}, {api.Tree{Kind: api.TreeTrue, Name: "x"}, api.ErrArg}, {api.Tree{Kind: api.TreeFalse, Names: []string{"x"}}, api.ErrArg},
		{api.Tree{Kind: api.TreeTrue, N: n(1)}, api.ErrArg}, {of(api.TreeLt, v("x"), num(n(1, 0))), api.ErrArg}, {of(api.TreeLt, v("x"), num(api.Int{Neg: true})), api.ErrArg}, {of(api.TreeLt, v("x"), num(api.Int{Neg: true, Mag: []uint32{1}})), api.ErrArg},
		{divides(api.Int{}, v("x")), api.ErrZero}, {and(yes(), divides(api.Int{}, num(n(3)))), api.ErrZero}, {and(divides(api.Int{}, v("x")), v("x")), api.ErrArg}, {divides(n(0), v("x")), api.ErrArg},
		{not(deep), api.ErrDepth}, {and(yes(), deep), api.ErrDepth}, {over(mostDeep, divides(api.Int{}, v("x")), not), api.ErrZero}, {over(mostDeep, v("x"), not), api.ErrArg},
	}
}

// wrongNames are none.
func wrongNames() []string {
	names := []string{
		"", " ", "a b", " a", "a ", "a\n", "1", "1a", "_", "_a", "-a", "a-b", "a.b", "a(", "#", "<", "<=", "*", "é", "aé", "\x00", "a\x00", "\xff", strings.Repeat("n", mostBytes+1), strings.Repeat("n", 4097),
	}
	return append(names, "and", "or", "not", "some", "all", "true", "false", "implies", "iff", "divides")
}
