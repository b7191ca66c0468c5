package verdict_test

import (
	"math"
	"slices"
	"strings"
	"testing"

	"riddle/api"
	"riddle/syntax"
)

// Trees are made here by short calls.

func n(limbs ...uint32) api.Int { return api.Int{Mag: limbs} }

// small is a number of one limb, or 0.
func small(k int) api.Int {
	switch {
	case k == 0:
		return api.Int{}
	case k < 0:
		return api.Int{Neg: true, Mag: []uint32{uint32(-k)}}
	}
	return n(uint32(k))
}

func smalls(l ...int) []api.Int {
	var all []api.Int
	for _, k := range l {
		all = append(all, small(k))
	}
	return all
}

func node(kind int, kids ...api.Tree) api.Tree { return api.Tree{Kind: kind, Kids: kids} }

func num(k api.Int) api.Tree { return api.Tree{Kind: api.TreeNum, N: k} }

// written is a number as a text has it, also one below 0.
func written(k api.Int) api.Tree {
	if k.Neg {
		return neg(num(api.Int{Mag: k.Mag}))
	}
	return num(k)
}

func v(name string) api.Tree { return api.Tree{Kind: api.TreeVar, Name: name} }

func neg(t api.Tree) api.Tree { return node(api.TreeNeg, t) }

func add(a, b api.Tree) api.Tree { return node(api.TreeAdd, a, b) }

func lt(a, b api.Tree) api.Tree { return node(api.TreeLt, a, b) }

func below1(name string) api.Tree { return lt(v(name), num(n(1))) }

func divides(k api.Int, t api.Tree) api.Tree {
	return api.Tree{Kind: api.TreeDivides, N: k, Kids: []api.Tree{t}}
}

func yes() api.Tree { return node(api.TreeTrue) }

func not(f api.Tree) api.Tree { return node(api.TreeNot, f) }

func and(l ...api.Tree) api.Tree { return node(api.TreeAnd, l...) }

func or(l ...api.Tree) api.Tree { return node(api.TreeOr, l...) }

func implies(f, g api.Tree) api.Tree { return node(api.TreeImplies, f, g) }

func iff(f, g api.Tree) api.Tree { return node(api.TreeIff, f, g) }

func bind(kind int, names []string, f api.Tree) api.Tree {
	return api.Tree{Kind: kind, Names: names, Kids: []api.Tree{f}}
}

func some(f api.Tree, names ...string) api.Tree { return bind(api.TreeSome, names, f) }

func all(f api.Tree, names ...string) api.Tree { return bind(api.TreeAll, names, f) }

// over puts a tree below so many others.
func over(times int, t api.Tree, put func(api.Tree) api.Tree) api.Tree {
	for range times {
		t = put(t)
	}
	return t
}

// many is a name so many times.
func many(times int, name string) []string { return slices.Repeat([]string{name}, times) }

// idle is a true sentence for which so many nodes are made, and nothing else.
func idle(nodes int) api.Tree { return all(yes(), many(nodes, "q")...) }

// divisors are formulas that say that each number from one to another one divides a term.
func divisors(from, to int, u api.Tree) []api.Tree {
	var l []api.Tree
	for k := from; k <= to; k++ {
		l = append(l, divides(small(k), u))
	}
	return l
}

// freeIn are the free names of a tree, rising, each once.
func freeIn(t api.Tree) []string {
	var l []string
	var tell func(t api.Tree, bound []string)
	tell = func(t api.Tree, bound []string) {
		if t.Kind == api.TreeVar && !slices.Contains(bound, t.Name) {
			l = append(l, t.Name)
		}
		for _, kid := range t.Kids {
			tell(kid, append(slices.Clone(bound), t.Names...))
		}
	}
	tell(t, nil)
	slices.Sort(l)
	return slices.Compact(l)
}

// isPlain tells whether a tree has no quantifier.
func isPlain(t api.Tree) bool {
	return t.Kind != api.TreeSome && t.Kind != api.TreeAll && !slices.ContainsFunc(t.Kids, func(kid api.Tree) bool { return !isPlain(kid) })
}

// A dice draws numbers, always the same ones.
type dice struct{ state uint64 }

// roll is one of 0 to n - 1.
func (d *dice) roll(n int) int {
	d.state = d.state*6364136223846793005 + 1442695040888963407
	return int((d.state >> 33) % uint64(n))
}

// name is one of few, so that many are free and bound, and bound again within.
func (d *dice) name() string { return []string{"x", "y", "z", "X_9", "a"}[d.roll(2+d.roll(4))] }

func (d *dice) names() []string {
	names := []string{d.name()}
	for d.roll(4) == 0 {
		names = append(names, d.name())
	}
	return names
}

// number is a small one mostly; with limbs rarely one at the end of what some of these hold, or one of two digits.
func (d *dice) number(limbs int) api.Int {
	switch {
	case limbs == 0 || d.roll(4) > 0:
		return small(d.roll(6))
	case d.roll(2) > 0:
		return small(d.roll(100))
	}
	return widest([]int{limbs, limbs - 1, 1 + d.roll(limbs)}[d.roll(3)], d.roll(2))
}

func (d *dice) value(limbs int) api.Int {
	k := d.number(limbs)
	k.Neg = len(k.Mag) > 0 && d.roll(2) == 0
	return k
}

func (d *dice) values(many, limbs int) []api.Int {
	var l []api.Int
	for range many {
		l = append(l, d.value(limbs))
	}
	return l
}

// term is one that may be, of at most that depth.
func (d *dice) term(most, limbs int) api.Tree {
	kind := d.roll(8)
	if most == 1 {
		kind %= 4
	}
	part := func() api.Tree { return d.term(most-1, limbs) }
	switch kind {
	case 0:
		return num(d.number(limbs))
	case 1, 2, 3:
		return v(d.name())
	case 4:
		return neg(part())
	case 5, 6:
		return node(api.TreeAdd+kind-5, part(), part())
	}
	return api.Tree{Kind: api.TreeMul, N: d.number(limbs), Kids: []api.Tree{part()}}
}

// leaf is a formula without another one in it.
func (d *dice) leaf(limbs int) api.Tree {
	switch kind := d.roll(16); {
	case kind == 0:
		return node(api.TreeTrue + d.roll(2))
	case kind < 4:
		k := d.number(limbs)
		if len(k.Mag) == 0 {
			k = n(2)
		}
		return divides(k, d.term(1+d.roll(3), limbs))
	}
	return node(api.TreeLt+d.roll(6), d.term(1+d.roll(2), limbs), d.term(1+d.roll(2), limbs))
}

// formula is one that may be, of so many levels above its leaves at most; bind puts a quantifier above one.
func (d *dice) formula(levels, limbs int, bind func(f api.Tree) api.Tree) api.Tree {
	if levels == 0 {
		return d.leaf(limbs)
	}
	part := func() api.Tree { return d.formula(levels-1, limbs, bind) }
	switch kind := d.roll(12); kind {
	case 0:
		return d.leaf(limbs)
	case 1:
		return not(part())
	case 2, 3, 4, 5:
		t := node(api.TreeAnd+kind%2, part(), part())
		for d.roll(3) == 0 {
			t.Kids = append(t.Kids, part())
		}
		return t
	case 6, 7:
		return node(api.TreeImplies+kind-6, part(), part())
	}
	return bind(part())
}

// quantifier puts any one above a formula.
func (d *dice) quantifier(f api.Tree) api.Tree {
	return bind(api.TreeSome+d.roll(2), d.names(), f)
}

// spoilt is a tree that may be, but for one that is changed somewhere in it.
func (d *dice) spoilt(t api.Tree) api.Tree {
	t.Kids = slices.Clone(t.Kids)
	if len(t.Kids) > 0 && d.roll(4) > 0 {
		i := d.roll(len(t.Kids))
		t.Kids[i] = d.spoilt(t.Kids[i])
		return t
	}
	switch d.roll(6) {
	case 0:
		t.Kind = d.roll(28) - 2
	case 1:
		t.Name = []string{"x", "", "and", "a b"}[d.roll(4)]
	case 2:
		t.Names = []string{"x", "y", "not"}[:d.roll(4)]
	case 3:
		t.N = []api.Int{{}, n(3), {Neg: true}, {Neg: true, Mag: []uint32{3}}, n(0), n(3, 0)}[d.roll(6)]
	case 4:
		t.Kids = append(t.Kids, []api.Tree{yes(), num(n(1))}[d.roll(2)])
	case 5:
		t.Kids = t.Kids[:d.roll(len(t.Kids)+1)]
	}
	return t
}

// A wrongTree is one that syntax.Check refuses, with the error.
type wrongTree struct {
	what string
	tree api.Tree
	e    api.Errno
}

// wrongTrees are of each kind of refusal, several at once too.
func wrongTrees() []wrongTree {
	x := v("x")
	zero := divides(api.Int{}, x)
	deep := over(mostDeep, yes(), not)
	return []wrongTree{
		{"nothing", api.Tree{}, api.ErrArg}, {"a number", num(n(1)), api.ErrArg}, {"a variable", x, api.ErrArg}, {"a sum", add(x, x), api.ErrArg}, {"no kind", node(99), api.ErrArg}, {"a kind below 0", node(math.MinInt), api.ErrArg},
		{"some without a kid", api.Tree{Kind: api.TreeSome, Names: []string{"x"}}, api.ErrArg}, {"some without a name", some(below1("x")), api.ErrArg}, {"some of a term", some(x, "x"), api.ErrArg}, {"some of a word", some(below1("x"), "x", "some"), api.ErrArg},
		{"some of some without a kid", some(api.Tree{Kind: api.TreeSome, Names: []string{"y"}}, "x"), api.ErrArg}, {"some of two", api.Tree{Kind: api.TreeSome, Names: []string{"x"}, Kids: []api.Tree{yes(), yes()}}, api.ErrArg}, {"a long name", some(below1("x"), strings.Repeat("n", api.MaxName+1)), api.ErrArg},
		{"one kid", and(yes()), api.ErrArg}, {"a term in and", and(yes(), x), api.ErrArg}, {"a number below 0", lt(x, num(small(-1))), api.ErrArg}, {"a number with a nought", lt(x, num(n(1, 0))), api.ErrArg}, {"wrong below some", some(and(yes(), below1("x"), node(0)), "x"), api.ErrArg},
		{"by 0", zero, api.ErrZero}, {"by 0 below some", some(or(below1("x"), not(zero)), "x"), api.ErrZero}, {"by 0, and open", and(below1("y"), zero), api.ErrZero}, {"by 0, and long", and(lt(x, num(widest(9, 0))), zero), api.ErrZero},
		{"too deep", deep, api.ErrDepth}, {"some too deep", over(mostDeep, yes(), func(f api.Tree) api.Tree { return some(f, "x") }), api.ErrDepth}, {"too deep, and open", over(mostDeep-1, below1("x"), not), api.ErrDepth}, {"a term too deep", lt(over(mostDeep-1, x, neg), x), api.ErrDepth}, {"too deep, and great", and(idle(api.MaxNodes+1), deep), api.ErrDepth},
		{"wrong, by 0, too deep", and(zero, deep, node(0)), api.ErrArg}, {"by 0, too deep", or(deep, zero), api.ErrZero}, {"wrong, too deep", and(deep, node(0)), api.ErrArg},
	}
}

// Where the trees of this list are wrong is told by package syntax as well.
func TestWrongTrees(t *testing.T) {
	for _, w := range wrongTrees() {
		if e := syntax.Check(w.tree); e != w.e {
			t.Errorf("Check of %s: %v, want %v", w.what, e, w.e)
		}
	}
}
