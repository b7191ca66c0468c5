package raise_test

import (
	"math"
	"slices"
	"strconv"
	"strings"
	"testing"

	"riddle/api"
	"riddle/arena"
	"riddle/atom"
	"riddle/meter"
	"riddle/raise"
	"riddle/syntax"
)

const (
	top = 1<<32 - 1
	// drawn is how many formulas a test draws.
	drawn = 3000
)

func n(limbs ...uint32) api.Int { return api.Int{Mag: limbs} }

// small is a number of one limb, or 0.
func small(k int) api.Int {
	switch {
	case k == 0:
		return api.Int{}
	case k < 0:
		return api.Int{Neg: true, Mag: []uint32{uint32(-k)}}
	}
	return n(uint32(k))
}

func below(a api.Int) api.Int { return api.Int{Neg: true, Mag: a.Mag} }

// widest is the greatest number of just so many limbs.
func widest(limbs int) api.Int { return n(slices.Repeat([]uint32{top}, limbs)...) }

// linear is a term of a constant, and of coefficients of the variables 0, 1, 2 ..
func linear(k int, coefs ...int) api.Term {
	t := api.Term{K: small(k)}
	for v, c := range coefs {
		if c != 0 {
			t.Parts = append(t.Parts, api.Part{Var: v, C: small(c)})
		}
	}
	return t
}

// of1 is one variable.
func of1(v int) api.Term { return api.Term{Parts: []api.Part{{Var: v, C: small(1)}}} }

func less(t api.Term) api.Atom { return api.Atom{Kind: api.Less, T: t} }

func div(d int, t api.Term) api.Atom { return api.Atom{Kind: api.Div, D: small(d), T: t} }

func not(d int, t api.Term) api.Atom { return api.Atom{Kind: api.Not, D: small(d), T: t} }

// Trees are made here by short calls.

func num(k int) api.Tree { return api.Tree{Kind: api.TreeNum, N: small(k)} }

func great(k api.Int) api.Tree { return api.Tree{Kind: api.TreeNum, N: k} }

func v(name string) api.Tree { return api.Tree{Kind: api.TreeVar, Name: name} }

func of(kind int, kids ...api.Tree) api.Tree { return api.Tree{Kind: kind, Kids: kids} }

func neg(t api.Tree) api.Tree { return of(api.TreeNeg, t) }

func add(a, b api.Tree) api.Tree { return of(api.TreeAdd, a, b) }

func sub(a, b api.Tree) api.Tree { return of(api.TreeSub, a, b) }

func mul(k api.Int, t api.Tree) api.Tree {
	return api.Tree{Kind: api.TreeMul, N: k, Kids: []api.Tree{t}}
}

func divides(k api.Int, t api.Tree) api.Tree {
	return api.Tree{Kind: api.TreeDivides, N: k, Kids: []api.Tree{t}}
}

func lt(a, b api.Tree) api.Tree { return of(api.TreeLt, a, b) }

func quantified(kind int, name string, f api.Tree) api.Tree {
	return api.Tree{Kind: kind, Names: []string{name}, Kids: []api.Tree{f}}
}

func read(t *testing.T, text string) api.Tree {
	t.Helper()
	u, m := syntax.Parse(text)
	if m != (api.Mishap{}) {
		t.Fatalf("Parse(%q): %v", text, m)
	}
	return u
}

// termOf is the term of a text.
func termOf(t *testing.T, text string) api.Tree {
	t.Helper()
	return read(t, "0 = "+text).Kids[1]
}

// The tellers tell all fields as they stand, limb by limb, so that what differs in anything is told otherwise.

func tellInt(a api.Int) string {
	var b strings.Builder
	if a.Neg {
		b.WriteString("-")
	}
	for _, limb := range a.Mag {
		b.WriteString("'" + strconv.FormatUint(uint64(limb), 10))
	}
	return b.String()
}

func tellTerm(t api.Term) string {
	var b strings.Builder
	for _, p := range t.Parts {
		b.WriteString(tellInt(p.C) + " v" + strconv.Itoa(p.Var) + " + ")
	}
	return b.String() + tellInt(t.K)
}

func tellAtom(x api.Atom) string {
	return strconv.Itoa(x.Kind) + " " + tellInt(x.D) + " | " + tellTerm(x.T)
}

func tellTree(t api.Tree) string {
	var b strings.Builder
	b.WriteString(strconv.Itoa(t.Kind))
	if t.Name != "" {
		b.WriteString(strconv.Quote(t.Name))
	}
	for _, name := range t.Names {
		b.WriteString("," + strconv.Quote(name))
	}
	b.WriteString(tellInt(t.N))
	for _, kid := range t.Kids {
		b.WriteString("(" + tellTree(kid) + ")")
	}
	return b.String()
}

// tellArena tells all nodes, and the meter.
func tellArena(a *arena.Arena) string {
	var b strings.Builder
	for id := range a.Len() {
		node, _ := a.Node(id)
		b.WriteString(tellAtom(api.Atom{Kind: node.Kind, D: node.D, T: node.T}) + " v" + strconv.Itoa(node.Var))
		for _, kid := range node.Kids {
			b.WriteString(" " + strconv.Itoa(kid))
		}
		b.WriteString("; ")
	}
	return b.String() + strconv.Itoa(a.Meter().Spent()) + " " + a.Meter().Over().Error()
}

// short cuts what would fill pages.
func short(text string) string {
	if len(text) > 1000 {
		return text[:1000] + ".."
	}
	return text
}

// isZero tells whether no field of a tree has anything.
func isZero(t api.Tree) bool {
	return t.Kind == 0 && t.Name == "" && len(t.Names) == 0 && !t.N.Neg && len(t.N.Mag) == 0 && len(t.Kids) == 0
}

func meterOf(t *testing.T, nodes, limbs int) *meter.Meter {
	t.Helper()
	m, e := meter.New(nodes, limbs)
	if m == nil || e != api.OK {
		t.Fatalf("meter.New(%d, %d): %v", nodes, limbs, e)
	}
	return m
}

// Nodes are made here by calls that fail where the arena refuses them.

type maker struct {
	*testing.T
	a *arena.Arena
}

func newMaker(t *testing.T) maker { return maker{t, arena.New(nil)} }

func (m maker) must(id int, e api.Errno) int {
	m.Helper()
	if e != api.OK {
		m.Fatalf("the arena: %v", e)
	}
	return id
}

func (m maker) atom(x api.Atom) int { m.Helper(); return m.must(m.a.Atom(x)) }

func (m maker) less(k int, coefs ...int) int { m.Helper(); return m.atom(less(linear(k, coefs...))) }

func (m maker) and(ids ...int) int { m.Helper(); return m.must(m.a.Join(api.And, ids...)) }

func (m maker) or(ids ...int) int { m.Helper(); return m.must(m.a.Join(api.Or, ids...)) }

func (m maker) some(v, id int) int { m.Helper(); return m.must(m.a.Bind(api.Some, v, id)) }

func (m maker) all(v, id int) int { m.Helper(); return m.must(m.a.Bind(api.All, v, id)) }

// want fails unless a node's tree is that one, and nothing was made for it.
func (m maker) want(id int, names string, want api.Tree) {
	m.Helper()
	was := tellArena(m.a)
	got, e := raise.To(m.a, id, strings.Fields(names))
	if e != api.OK || tellTree(got) != tellTree(want) {
		m.Errorf("To(%d, %q): %s, %v, want %s", id, names, short(tellTree(got)), e, short(tellTree(want)))
	}
	if tellArena(m.a) != was {
		m.Errorf("To(%d, %q) has changed the arena: %s, was %s", id, names, short(tellArena(m.a)), short(was))
	}
}

// wantText fails unless a node's tree is that of a text.
func (m maker) wantText(id int, names, text string) {
	m.Helper()
	m.want(id, names, read(m.T, text))
}

func (m maker) wantNone(id int, names []string, want api.Errno) {
	m.Helper()
	was := tellArena(m.a)
	if got, e := raise.To(m.a, id, names); e != want || !isZero(got) {
		m.Errorf("To(%d, %q): %s, %v, want %v", id, names, short(tellTree(got)), e, want)
	}
	if tellArena(m.a) != was {
		m.Errorf("To(%d, %q) has changed the arena", id, names)
	}
}

// badNames are lists of names that may not be: with one that is no name, with two alike.
func badNames() [][]string {
	return [][]string{
		{""}, {"and"}, {"x", "y", "divides"}, {"9"}, {"_a"}, {"x", "a b"}, {" x"}, {"x "}, {"x", "x'"}, {"v1", "\u00e4"}, {strings.Repeat("n", 25)}, {"x", strings.Repeat("n", 60), "y"},
		{"x", "x"}, {"x", "y", "x"}, {"x", "y", "z", "y"}, {"", ""}, {"x", "X", "x"}, {"v0", "v1", "v1"},
	}
}

// A dice draws numbers, always the same ones.
type dice struct{ state uint64 }

// roll is one of 0 to n - 1.
func (d *dice) roll(n int) int {
	d.state = d.state*6364136223846793005 + 1442695040888963407
	return int((d.state >> 33) % uint64(n))
}

// names are so many that may be, in any order; some look like those of bound variables.
func (d *dice) names(many int) []string {
	all := []string{"x", "y", "z", "a", "X_9", "v0", "v1", "v1_", "v3", "v3_", "v3__", "w1", "w1_", "v", "w", "v10", "And"}
	for i := range all {
		j := i + d.roll(len(all)-i)
		all[i], all[j] = all[j], all[i]
	}
	return all[:many]
}

// number is a small one mostly, of both signs; rarely one at the end of what so many limbs hold.
func (d *dice) number(limbs int) api.Int {
	k := small(d.roll(11) - 5)
	if d.roll(8) == 0 {
		k = widest(1 + d.roll(limbs))
		k.Mag[0] -= uint32(d.roll(2))
		k.Neg = d.roll(2) == 0
	}
	return k
}

// raw is a number that may not stand as it should.
func (d *dice) raw(limbs int) api.Int {
	k := d.number(limbs)
	k.Mag = append(k.Mag, make([]uint32, d.roll(2)*d.roll(3))...)
	if len(k.Mag) == 0 {
		k.Neg = d.roll(2) == 0
	}
	return k
}

// variable is one of from, from + 1 .. till.
func (d *dice) variable(from, till int) int { return from + d.roll(till-from+1) }

// term is one whose variables are of these; its parts stand in any order, some several times, some with the coefficient 0.
func (d *dice) term(limbs, from, till int) api.Term {
	t := api.Term{K: d.raw(limbs)}
	for range d.roll(5) {
		t.Parts = append(t.Parts, api.Part{Var: d.variable(from, till), C: d.raw(limbs)})
	}
	return t
}

// atom is one that is not refused, whose variables are of these.
func (d *dice) atom(limbs, from, till int) api.Atom {
	x := api.Atom{Kind: []int{api.False, api.True, api.Less, api.Less, api.Less, api.Div, api.Div, api.Not, api.Not}[d.roll(9)], D: d.raw(limbs), T: d.term(limbs, from, till)}
	if _, e := atom.Norm(x); e != api.OK {
		x.D = small(2 + d.roll(12))
	}
	return x
}

// grown is an arena with drawn nodes, each of any ones that are there already, so that many hang at several places; it is
// answered with all its nodes' numbers. Atoms' variables are of these; bound ones, too, and a few others.
func (d *dice) grown(t *testing.T, steps, from, till int, plain bool) (*arena.Arena, []int) {
	t.Helper()
	a := arena.New(meterOf(t, 2000, 4))
	pick := func() int { return max(d.roll(a.Len()), d.roll(a.Len()), d.roll(a.Len())) }
	for range 3 {
		a.Atom(d.atom(2, from, till))
	}
	for range steps {
		switch kind := d.roll(10); {
		case kind < 3:
			a.Atom(d.atom(2, from, till))
		case kind < 7 || plain:
			kids := []int{pick(), pick()}
			for d.roll(3) == 0 {
				kids = append(kids, pick())
			}
			a.Join(api.And+d.roll(2), kids...)
		case d.roll(8) == 0:
			a.Bind(api.Some+d.roll(2), []int{100, -100, math.MaxInt, math.MinInt}[d.roll(4)], pick())
		default:
			a.Bind(api.Some+d.roll(2), d.variable(from, till), pick())
		}
	}
	var ids []int
	for id := range a.Len() {
		ids = append(ids, id)
	}
	return a, ids
}
