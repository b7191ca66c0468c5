package syntax_test

import (
	"slices"
	"strconv"
	"strings"
	"testing"

	"riddle/api"
	"riddle/syntax"
)

// Trees are made here by short calls.

const (
	mostBytes = 4096
	mostDeep  = 60
	mostName  = 24
	tooMany   = 3001
)

func n(limbs ...uint32) api.Int { return api.Int{Mag: limbs} }

func num(limbs ...uint32) api.Tree { return api.Tree{Kind: api.TreeNum, N: n(limbs...)} }

func v(name string) api.Tree { return api.Tree{Kind: api.TreeVar, Name: name} }

func of(kind int, kids ...api.Tree) api.Tree { return api.Tree{Kind: kind, Kids: kids} }

func neg(t api.Tree) api.Tree { return of(api.TreeNeg, t) }

func add(a, b api.Tree) api.Tree { return of(api.TreeAdd, a, b) }

func sub(a, b api.Tree) api.Tree { return of(api.TreeSub, a, b) }

func mul(k uint32, t api.Tree) api.Tree {
	return api.Tree{Kind: api.TreeMul, N: number(k), Kids: []api.Tree{t}}
}

func divides(k uint32, t api.Tree) api.Tree {
	return api.Tree{Kind: api.TreeDivides, N: number(k), Kids: []api.Tree{t}}
}

func yes() api.Tree { return of(api.TreeTrue) }

func no() api.Tree { return of(api.TreeFalse) }

func lt(a, b api.Tree) api.Tree { return of(api.TreeLt, a, b) }

// below1 is `name < 1`.
func below1(name string) api.Tree { return lt(v(name), num(1)) }

func not(f api.Tree) api.Tree { return of(api.TreeNot, f) }

func and(l ...api.Tree) api.Tree { return of(api.TreeAnd, l...) }

func or(l ...api.Tree) api.Tree { return of(api.TreeOr, l...) }

func implies(a, b api.Tree) api.Tree { return of(api.TreeImplies, a, b) }

func iff(a, b api.Tree) api.Tree { return of(api.TreeIff, a, b) }

func some(names string, f api.Tree) api.Tree {
	return api.Tree{Kind: api.TreeSome, Names: strings.Fields(names), Kids: []api.Tree{f}}
}

func all(names string, f api.Tree) api.Tree {
	return api.Tree{Kind: api.TreeAll, Names: strings.Fields(names), Kids: []api.Tree{f}}
}

func number(k uint32) api.Int {
	if k == 0 {
		return api.Int{}
	}
	return n(k)
}

func compares() []int {
	return []int{api.TreeLt, api.TreeLe, api.TreeEq, api.TreeNe, api.TreeGe, api.TreeGt}
}

// over puts a tree below so many others of one kid.
func over(times int, t api.Tree, put func(api.Tree) api.Tree) api.Tree {
	for range times {
		t = put(t)
	}
	return t
}

// tell is a tree as it stands, field by field, so that what differs in anything is told otherwise.
func tell(t api.Tree) string {
	var b strings.Builder
	b.WriteString(strconv.Itoa(t.Kind))
	if t.Name != "" {
		b.WriteString(strconv.Quote(t.Name))
	}
	for _, name := range t.Names {
		b.WriteString("," + strconv.Quote(name))
	}
	if t.N.Neg {
		b.WriteString("-")
	}
	for _, limb := range t.N.Mag {
		b.WriteString("'" + strconv.FormatUint(uint64(limb), 10))
	}
	if len(t.Kids) > 0 {
		b.WriteString("(")
		for _, kid := range t.Kids {
			b.WriteString(tell(kid) + ";")
		}
		b.WriteString(")")
	}
	return b.String()
}

func depth(t api.Tree) int {
	most := 0
	for _, kid := range t.Kids {
		most = max(most, depth(kid))
	}
	return most + 1
}

// dice are trees that look drawn, and are the same ones each time.
type dice struct{ state uint64 }

func (d *dice) below(n int) int {
	d.state = d.state*6364136223846793005 + 1442695040888963407
	return int(d.state>>33) % n
}

func (d *dice) name() string {
	return []string{"x", "y", "z", "X_9", "And", strings.Repeat("n", mostName)}[d.below(6)]
}

func (d *dice) names() []string {
	names := []string{d.name()}
	for d.below(3) == 0 {
		names = append(names, d.name())
	}
	return names
}

func (d *dice) number() api.Int {
	return []api.Int{{}, n(1), n(2), n(7), n(0, 1), n(5, 0, 9)}[d.below(6)]
}

func (d *dice) divisor() api.Int {
	return []api.Int{n(1), n(2), n(7), n(0, 1), n(5, 0, 9)}[d.below(5)]
}

// term is one that may be, of at most that depth.
func (d *dice) term(most int) api.Tree {
	kind := d.below(6)
	if most == 1 {
		kind %= 2
	}
	switch kind {
	case 0:
		return api.Tree{Kind: api.TreeNum, N: d.number()}
	case 1:
		return v(d.name())
	case 2:
		return neg(d.term(most - 1))
	case 3:
		return add(d.term(most-1), d.term(most-1))
	case 4:
		return sub(d.term(most-1), d.term(most-1))
	}
	return api.Tree{Kind: api.TreeMul, N: d.number(), Kids: []api.Tree{d.term(most - 1)}}
}

// formula is one that may be, of at most that depth.
func (d *dice) formula(most int) api.Tree {
	if most == 1 {
		return of(api.TreeTrue + d.below(2))
	}
	part := func() api.Tree { return d.formula(most - 1) }
	switch d.below(11) {
	case 0:
		return of(api.TreeTrue + d.below(2))
	case 1, 2:
		return of(compares()[d.below(6)], d.term(min(most-1, 4)), d.term(min(most-1, 4)))
	case 3:
		return api.Tree{Kind: api.TreeDivides, N: d.divisor(), Kids: []api.Tree{d.term(min(most-1, 4))}}
	case 4:
		return not(part())
	case 5, 6:
		t := of(api.TreeAnd+d.below(2), part(), part())
		for d.below(3) == 0 {
			t.Kids = append(t.Kids, part())
		}
		return t
	case 7:
		return implies(part(), part())
	case 8:
		return iff(part(), part())
	}
	return api.Tree{Kind: api.TreeSome + d.below(2), Names: d.names(), Kids: []api.Tree{part()}}
}

// wild is any tree: of whatever kind, with whatever fields.
func (d *dice) wild(most int) api.Tree {
	t := api.Tree{Kind: d.below(28) - 2}
	if d.below(3) == 0 {
		t.Name = []string{"x", "", "and", "9", "a b", "_"}[d.below(6)]
	}
	if d.below(3) == 0 {
		t.Names = []string{"x", "", "y"}[:d.below(4)]
	}
	if d.below(3) == 0 {
		t.N = []api.Int{{}, n(3), {Neg: true}, {Neg: true, Mag: []uint32{3}}, n(0), n(3, 0), {Neg: true, Mag: []uint32{0, 0}}}[d.below(7)]
	}
	for most > 1 && d.below(5) < 3 {
		t.Kids = append(t.Kids, d.wild(most-1))
	}
	return t
}

// spoilt is a tree that may be, but for one that is changed at random somewhere in it.
func (d *dice) spoilt(t api.Tree) api.Tree {
	t.Kids = slices.Clone(t.Kids)
	if len(t.Kids) > 0 && d.below(4) > 0 {
		i := d.below(len(t.Kids))
		t.Kids[i] = d.spoilt(t.Kids[i])
		return t
	}
	switch d.below(7) {
	case 0:
		t.Kind = d.below(28) - 2
	case 1:
		t.Name = []string{"x", "", "and", "a b"}[d.below(4)]
	case 2:
		t.Names = []string{"x", "y", "not"}[:d.below(4)]
	case 3:
		t.N = []api.Int{{}, n(3), {Neg: true}, {Neg: true, Mag: []uint32{3}}, n(0), n(3, 0)}[d.below(6)]
	case 4:
		t.Kids = append(t.Kids, yes())
	case 5:
		t.Kids = append(t.Kids, num(1))
	case 6:
		t.Kids = t.Kids[:d.below(len(t.Kids)+1)]
	}
	return t
}

// formulas calls f with formulas that may be: all small ones of some parts, and drawn ones.
func formulas(f func(t api.Tree)) {
	leaf := lt(sub(v("x"), add(v("y"), num(1))), neg(mul(2, v("x"))))
	for _, t := range append(small(2, yes()), small(1, leaf, no())...) {
		f(t)
		f(some("x", t))
		f(and(t, no()))
		f(or(yes(), t, no()))
		f(implies(t, t))
	}
	d := &dice{state: 3}
	for range 2000 {
		f(d.formula(1 + d.below(5)))
	}
}

// small are all formulas of so many levels of connectives above some leaves.
func small(levels int, leaves ...api.Tree) []api.Tree {
	if levels == 0 {
		return leaves
	}
	less := small(levels-1, leaves...)
	l := slices.Clone(less)
	for _, a := range less {
		l = append(l, not(a), some("x", a), all("y x", a))
		for _, b := range less {
			l = append(l, and(a, b), or(a, b), implies(a, b), iff(a, b))
		}
		l = append(l, and(a, yes(), a), or(a, yes(), a))
	}
	return l
}

// wantTree fails unless a text is read as a tree, down to each limb.
func wantTree(t *testing.T, text string, want api.Tree) {
	t.Helper()
	got, m := syntax.Parse(text)
	if m != (api.Mishap{}) || tell(got) != tell(want) {
		t.Errorf("Parse(%q): %s %v, want %s", text, tell(got), m, tell(want))
	}
}

// wantMishap fails unless a text is refused so, with nothing beside it.
func wantMishap(t *testing.T, text string, e api.Errno, at int) {
	t.Helper()
	got, m := syntax.Parse(text)
	if m != (api.Mishap{Code: e, At: at}) || tell(got) != tell(api.Tree{}) {
		t.Errorf("Parse(%q): %s %v, want %v at %d", text, tell(got), m, e, at)
	}
}

// wantText fails unless a tree has a text, and is read out of it again.
func wantText(t *testing.T, u api.Tree, want string) {
	t.Helper()
	if got, e := syntax.Print(u); got != want || e != api.OK {
		t.Errorf("Print(%s): %q %v, want %q", tell(u), got, e, want)
	}
	wantTree(t, want, u)
}

// wantCheck fails unless Check, and Print, too, if it is an error, answer that.
func wantCheck(t *testing.T, u api.Tree, want api.Errno) {
	t.Helper()
	if e := syntax.Check(u); e != want {
		t.Errorf("Check(%s): %v, want %v", tell(u), e, want)
	}
	if text, e := syntax.Print(u); want != api.OK && (text != "" || e != want) {
		t.Errorf("Print(%s): %q %v, want %v", tell(u), text, e, want)
	}
}
