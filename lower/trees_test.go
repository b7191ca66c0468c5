package lower_test

import (
	"math"
	"slices"
	"strconv"
	"strings"
	"testing"

	"riddle/api"
	"riddle/arena"
	"riddle/atom"
	"riddle/lower"
	"riddle/meter"
	"riddle/syntax"
)

const (
	top      = 1<<32 - 1
	mostDeep = 60
	// drawn is how many formulas a test draws.
	drawn = 3000
)

// Trees are made here by short calls.

func n(limbs ...uint32) api.Int { return api.Int{Mag: limbs} }

// small is a number of one limb, or 0.
func small(k int) api.Int {
	switch {
	case k == 0:
		return api.Int{}
	case k < 0:
		return api.Int{Neg: true, Mag: []uint32{uint32(-k)}}
	}
	return n(uint32(k))
}

// widest is the greatest number of just so many limbs.
func widest(limbs int) api.Int { return n(slices.Repeat([]uint32{top}, limbs)...) }

func num(k int) api.Tree { return api.Tree{Kind: api.TreeNum, N: small(k)} }

func great(k api.Int) api.Tree { return api.Tree{Kind: api.TreeNum, N: k} }

func v(name string) api.Tree { return api.Tree{Kind: api.TreeVar, Name: name} }

func of(kind int, kids ...api.Tree) api.Tree { return api.Tree{Kind: kind, Kids: kids} }

func neg(t api.Tree) api.Tree { return of(api.TreeNeg, t) }

func add(a, b api.Tree) api.Tree { return of(api.TreeAdd, a, b) }

func sub(a, b api.Tree) api.Tree { return of(api.TreeSub, a, b) }

func mul(k api.Int, t api.Tree) api.Tree {
	return api.Tree{Kind: api.TreeMul, N: k, Kids: []api.Tree{t}}
}

func divides(k api.Int, t api.Tree) api.Tree {
	return api.Tree{Kind: api.TreeDivides, N: k, Kids: []api.Tree{t}}
}

func yes() api.Tree { return of(api.TreeTrue) }

func lt(a, b api.Tree) api.Tree { return of(api.TreeLt, a, b) }

// below1 is `name < 1`.
func below1(name string) api.Tree { return lt(v(name), num(1)) }

func not(f api.Tree) api.Tree { return of(api.TreeNot, f) }

func and(l ...api.Tree) api.Tree { return of(api.TreeAnd, l...) }

func or(l ...api.Tree) api.Tree { return of(api.TreeOr, l...) }

func iff(a, b api.Tree) api.Tree { return of(api.TreeIff, a, b) }

func some(names string, f api.Tree) api.Tree {
	return api.Tree{Kind: api.TreeSome, Names: strings.Fields(names), Kids: []api.Tree{f}}
}

func all(names string, f api.Tree) api.Tree {
	return api.Tree{Kind: api.TreeAll, Names: strings.Fields(names), Kids: []api.Tree{f}}
}

// over puts a tree below so many others.
func over(times int, t api.Tree, put func(api.Tree) api.Tree) api.Tree {
	for range times {
		t = put(t)
	}
	return t
}

func read(t *testing.T, text string) api.Tree {
	t.Helper()
	u, m := syntax.Parse(text)
	if m != (api.Mishap{}) {
		t.Fatalf("Parse(%q): %v", text, m)
	}
	return u
}

// The tellers tell all fields as they stand, limb by limb, so that what differs in anything is told otherwise.

func tellInt(a api.Int) string {
	var b strings.Builder
	if a.Neg {
		b.WriteString("-")
	}
	for _, limb := range a.Mag {
		b.WriteString("'" + strconv.FormatUint(uint64(limb), 10))
	}
	return b.String()
}

func tellTerm(t api.Term) string {
	var b strings.Builder
	for _, p := range t.Parts {
		b.WriteString(tellInt(p.C) + " v" + strconv.Itoa(p.Var) + " + ")
	}
	return b.String() + tellInt(t.K)
}

func tellTree(t api.Tree) string {
	var b strings.Builder
	b.WriteString(strconv.Itoa(t.Kind))
	if t.Name != "" {
		b.WriteString(strconv.Quote(t.Name))
	}
	for _, name := range t.Names {
		b.WriteString("," + strconv.Quote(name))
	}
	b.WriteString(tellInt(t.N))
	for _, kid := range t.Kids {
		b.WriteString("(" + tellTree(kid) + ")")
	}
	return b.String()
}

// tellNode is a node: an atom's text; of others the kind, the variable and the kids' numbers.
func tellNode(x api.Node) string {
	var b strings.Builder
	switch x.Kind {
	case api.And:
		b.WriteString("and")
	case api.Or:
		b.WriteString("or")
	case api.Some:
		b.WriteString("some v" + strconv.Itoa(x.Var))
	case api.All:
		b.WriteString("all v" + strconv.Itoa(x.Var))
	default:
		return atom.Text(api.Atom{Kind: x.Kind, D: x.D, T: x.T})
	}
	for _, kid := range x.Kids {
		b.WriteString(" " + strconv.Itoa(kid))
	}
	return b.String()
}

// tellMade are the nodes from a number on, in the order in which they were made.
func tellMade(a *arena.Arena, from int) string {
	var texts []string
	for id := from; id < a.Len(); id++ {
		node, _ := a.Node(id)
		texts = append(texts, tellNode(node))
	}
	return strings.Join(texts, "; ")
}

// tellArena tells all nodes, and the meter.
func tellArena(a *arena.Arena) string {
	return tellMade(a, 0) + " / " + strconv.Itoa(a.Meter().Spent()) + " " + a.Meter().Over().Error()
}

// short cuts what would fill pages.
func short(text string) string {
	if len(text) > 3000 {
		return text[:3000] + ".."
	}
	return text
}

func meterOf(t *testing.T, nodes, limbs int) *meter.Meter {
	t.Helper()
	m, e := meter.New(nodes, limbs)
	if m == nil || e != api.OK {
		t.Fatalf("meter.New(%d, %d): %v", nodes, limbs, e)
	}
	return m
}

// A dice draws numbers, always the same ones.
type dice struct{ state uint64 }

// roll is one of 0 to n - 1.
func (d *dice) roll(n int) int {
	d.state = d.state*6364136223846793005 + 1442695040888963407
	return int((d.state >> 33) % uint64(n))
}

// name is one of few, so that many are free and bound, and bound again within.
func (d *dice) name() string { return []string{"x", "y", "z", "w", "X_9", "a"}[d.roll(3+d.roll(4))] }

func (d *dice) names() []string {
	names := []string{d.name()}
	for d.roll(3) == 0 {
		names = append(names, d.name())
	}
	return names
}

// number is a small one mostly; rarely one at the end of what so many limbs hold.
func (d *dice) number(limbs int) api.Int {
	if d.roll(12) > 0 {
		return small(d.roll(5))
	}
	a := widest(limbs)
	a.Mag[0] -= uint32(d.roll(2))
	return a
}

func (d *dice) divisor(limbs int) api.Int {
	for {
		if k := d.number(limbs); len(k.Mag) > 0 {
			return k
		}
	}
}

// term is one that may be, of at most that depth.
func (d *dice) term(most, limbs int) api.Tree {
	kind := d.roll(7)
	if most == 1 {
		kind %= 3
	}
	part := func() api.Tree { return d.term(most-1, limbs) }
	switch kind {
	case 0:
		return great(d.number(limbs))
	case 1, 2:
		return v(d.name())
	case 3:
		return neg(part())
	case 4:
		return add(part(), part())
	case 5:
		return sub(part(), part())
	}
	return mul(d.number(limbs), part())
}

// leaf is a formula without another one in it.
func (d *dice) leaf(most, limbs int) api.Tree {
	kind := d.roll(14)
	switch {
	case kind == 0 || most == 1:
		return of(api.TreeTrue + d.roll(2))
	case kind < 4:
		return divides(d.divisor(limbs), d.term(min(most-1, 3), limbs))
	}
	return of(api.TreeLt+d.roll(6), d.term(min(most-1, 3), limbs), d.term(min(most-1, 3), limbs))
}

// formula is one that may be, of at most that depth; without quantifiers, if it is to be plain.
func (d *dice) formula(most, limbs int, plain bool) api.Tree {
	if most < 3 {
		return d.leaf(most, limbs)
	}
	part := func() api.Tree { return d.formula(most-1, limbs, plain) }
	kind := d.roll(12)
	if plain {
		kind %= 9
	}
	switch kind {
	case 0, 1:
		return d.leaf(most, limbs)
	case 2:
		return not(part())
	case 3, 4, 5, 6:
		t := of(api.TreeAnd+kind%2, part(), part())
		for d.roll(3) == 0 {
			t.Kids = append(t.Kids, part())
		}
		return t
	case 7, 8:
		return of(api.TreeImplies+kind%2, part(), part())
	}
	return api.Tree{Kind: api.TreeSome + d.roll(2), Names: d.names(), Kids: []api.Tree{part()}}
}

// spoilt is a tree that may be, but for one that is changed somewhere in it.
func (d *dice) spoilt(t api.Tree) api.Tree {
	t.Kids = slices.Clone(t.Kids)
	if len(t.Kids) > 0 && d.roll(4) > 0 {
		i := d.roll(len(t.Kids))
		t.Kids[i] = d.spoilt(t.Kids[i])
		return t
	}
	switch d.roll(7) {
	case 0:
		t.Kind = d.roll(28) - 2
	case 1:
		t.Name = []string{"x", "", "and", "a b"}[d.roll(4)]
	case 2:
		t.Names = []string{"x", "y", "not"}[:d.roll(4)]
	case 3:
		t.N = []api.Int{{}, n(3), {Neg: true}, {Neg: true, Mag: []uint32{3}}, n(0), n(3, 0)}[d.roll(6)]
	case 4:
		t.Kids = append(t.Kids, yes())
	case 5:
		t.Kids = append(t.Kids, num(1))
	case 6:
		t.Kids = t.Kids[:d.roll(len(t.Kids)+1)]
	}
	return t
}

// A refusal is a tree that syntax.Check refuses, with the error.
type refusal struct {
	of   string
	tree api.Tree
	e    api.Errno
}

// refusals are trees of each kind of refusal, several at once too.
func refusals() []refusal {
	zero := divides(api.Int{}, v("x"))
	deep := over(mostDeep, yes(), not)
	deepTerm := lt(over(mostDeep-1, v("x"), neg), num(0))
	return []refusal{
		{"nothing", api.Tree{}, api.ErrArg}, {"a number", num(1), api.ErrArg}, {"a variable", v("x"), api.ErrArg}, {"a sum", add(v("x"), v("y")), api.ErrArg}, {"a product", mul(n(2), v("x")), api.ErrArg},
		{"no kind", of(99), api.ErrArg}, {"a kind below 0", of(math.MinInt), api.ErrArg}, {"no kid", of(api.TreeNot), api.ErrArg}, {"one kid", and(yes()), api.ErrArg}, {"three kids", of(api.TreeIff, yes(), yes(), yes()), api.ErrArg},
		{"a term in and", and(yes(), v("x")), api.ErrArg}, {"a formula in <", lt(yes(), num(1)), api.ErrArg}, {"no name", below1(""), api.ErrArg}, {"a word as a name", below1("and"), api.ErrArg}, {"a long name", below1(strings.Repeat("n", 25)), api.ErrArg},
		{"no names", some("", yes()), api.ErrArg}, {"a bound word", all("x some", yes()), api.ErrArg}, {"names of an and", api.Tree{Kind: api.TreeAnd, Names: []string{"x"}, Kids: []api.Tree{yes(), yes()}}, api.ErrArg},
		{"a number below 0", lt(num(-1), v("x")), api.ErrArg}, {"a divisor below 0", divides(small(-2), v("x")), api.ErrArg}, {"a number with a nought", lt(great(n(1, 0)), v("x")), api.ErrArg}, {"a number of a <", api.Tree{Kind: api.TreeLt, N: n(1), Kids: []api.Tree{v("x"), v("y")}}, api.ErrArg},
		{"wrong below some", some("x", and(yes(), below1("x"), of(0))), api.ErrArg},
		{"by 0", zero, api.ErrZero}, {"by 0 below", all("y", or(below1("y"), not(zero))), api.ErrZero}, {"too deep", deep, api.ErrDepth}, {"a term too deep", deepTerm, api.ErrDepth}, {"too deep below some", some("x", over(mostDeep-1, below1("x"), not)), api.ErrDepth},
		{"wrong, by 0, too deep", and(zero, deep, of(0)), api.ErrArg}, {"by 0, too deep", or(deep, zero), api.ErrZero}, {"wrong, too deep", and(deep, of(0)), api.ErrArg},
	}
}

// Where the trees of this list are wrong is told by package syntax as well.
func TestRefusals(t *testing.T) {
	for _, r := range refusals() {
		if e := syntax.Check(r.tree); e != r.e {
			t.Errorf("Check of %s: %v, want %v", r.of, e, r.e)
		}
	}
}

func from(t *testing.T, a *arena.Arena, u api.Tree) int {
	t.Helper()
	id, e := lower.From(a, u)
	if e != api.OK {
		t.Fatalf("From(%s): %v", short(tellTree(u)), e)
	}
	return id
}
