package lower_test

import (
	"slices"
	"strconv"
	"strings"
	"testing"

	"riddle/api"
	"riddle/arena"
	"riddle/atom"
	"riddle/lower"
	"riddle/syntax"
	"riddle/zint"
)

// few are the integers that quantifiers go over here: what is equivalent under all values, part by part, is so there, too.
func few() []int { return []int{-2, 0, 1, 3} }

// A world has the value of each name.
type world map[string]int

func (w world) with(name string, value int) world {
	other := world{name: value}
	for name, value := range w {
		if _, is := other[name]; !is {
			other[name] = value
		}
	}
	return other
}

func (w world) value(t api.Tree) api.Int {
	kid := func(i int) api.Int { return w.value(t.Kids[i]) }
	switch t.Kind {
	case api.TreeNum:
		return t.N
	case api.TreeVar:
		return small(w[t.Name])
	case api.TreeNeg:
		return zint.Neg(kid(0))
	case api.TreeAdd:
		return zint.Add(kid(0), kid(1))
	case api.TreeSub:
		return zint.Sub(kid(0), kid(1))
	}
	return zint.Mul(t.N, kid(0))
}

// compares tells whether two terms stand to one another as a kind says.
func (w world) compares(t api.Tree) bool {
	order := zint.Cmp(w.value(t.Kids[0]), w.value(t.Kids[1]))
	switch t.Kind {
	case api.TreeLt:
		return order < 0
	case api.TreeLe:
		return order <= 0
	case api.TreeEq:
		return order == 0
	case api.TreeNe:
		return order != 0
	case api.TreeGe:
		return order >= 0
	}
	return order > 0
}

// is tells whether a formula is true, as mathematics has it.
func (w world) is(t api.Tree) bool {
	isNot := func(t api.Tree) bool { return !w.is(t) }
	switch t.Kind {
	case api.TreeTrue, api.TreeFalse:
		return t.Kind == api.TreeTrue
	case api.TreeDivides:
		_, rest, _ := zint.DivMod(w.value(t.Kids[0]), t.N)
		return zint.Sign(rest) == 0
	case api.TreeNot:
		return isNot(t.Kids[0])
	case api.TreeAnd:
		return !slices.ContainsFunc(t.Kids, isNot)
	case api.TreeOr:
		return slices.ContainsFunc(t.Kids, w.is)
	case api.TreeImplies:
		return isNot(t.Kids[0]) || w.is(t.Kids[1])
	case api.TreeIff:
		return w.is(t.Kids[0]) == w.is(t.Kids[1])
	case api.TreeSome, api.TreeAll:
		return w.binds(t, t.Names) == (t.Kind == api.TreeSome)
	}
	return w.compares(t)
}

// binds tells of a some whether there are values of its names under which it is true; of an all, whether there are some under which it isn't.
func (w world) binds(t api.Tree, names []string) bool {
	if len(names) == 0 {
		return w.is(t.Kids[0]) == (t.Kind == api.TreeSome)
	}
	return slices.ContainsFunc(few(), func(value int) bool { return w.with(names[0], value).binds(t, names[1:]) })
}

// holds tells whether a node is true under values, which stand by their variables.
func holds(t *testing.T, a *arena.Arena, id int, values []int) bool {
	t.Helper()
	node, _ := a.Node(id)
	isSo := func(kid int) bool { return holds(t, a, kid, values) }
	withIt := func(value int) bool {
		other := slices.Clone(values)
		other[node.Var] = value
		return holds(t, a, node.Kids[0], other)
	}
	switch node.Kind {
	case api.And:
		return !slices.ContainsFunc(node.Kids, func(kid int) bool { return !isSo(kid) })
	case api.Or:
		return slices.ContainsFunc(node.Kids, isSo)
	case api.Some:
		return slices.ContainsFunc(few(), withIt)
	case api.All:
		return !slices.ContainsFunc(few(), func(value int) bool { return !withIt(value) })
	}
	var list []api.Value
	for v, value := range values {
		list = append(list, api.Value{Var: v, N: small(value)})
	}
	is, e := atom.Holds(api.Atom{Kind: node.Kind, D: node.D, T: node.T}, list)
	if e != api.OK {
		t.Fatalf("node %d: %v", id, e)
	}
	return is
}

// truths fails unless what From makes of a formula is true under drawn values just where the formula is; it tells how often
// it was true, and how often not.
func truths(t *testing.T, d *dice, u api.Tree, times int) (counts [2]int) {
	t.Helper()
	a := arena.New(nil)
	id, e := lower.From(a, u)
	if e != api.OK {
		return counts
	}
	names, free := lower.Names(u), syntax.Free(u)
	if vars := a.Free(id); len(vars) > 0 && (vars[0] < 0 || vars[len(vars)-1] >= len(free)) {
		t.Fatalf("%s has the free variables %v of %q", tellTree(u), vars, names)
	}
	for range times {
		values, w := make([]int, len(names)), world{}
		for v, name := range free {
			values[v] = d.roll(15) - 7
			w[name] = values[v]
		}
		is := holds(t, a, id, values)
		if is != w.is(u) {
			t.Fatalf("%s is %v under %v, its node %v", tellTree(u), !is, w, is)
		}
		if is {
			counts[0]++
		} else {
			counts[1]++
		}
	}
	return counts
}

func TestP104TrueUnderTheSameValues(t *testing.T) {
	d := &dice{state: 103}
	var counts [2]int
	for range drawn {
		c := truths(t, d, d.formula(2+d.roll(5), 1+d.roll(2), true), 12)
		counts[0], counts[1] = counts[0]+c[0], counts[1]+c[1]
	}
	if min(counts[0], counts[1]) < drawn {
		t.Errorf("true and false %v times", counts)
	}
}

// Likewise with quantifiers.
func TestP104Quantifiers(t *testing.T) {
	d := &dice{state: 104}
	var counts [2]int
	for range drawn {
		u := d.formula(3+d.roll(2), 1, false)
		if d.roll(2) == 0 {
			u = api.Tree{Kind: api.TreeSome + d.roll(2), Names: d.names(), Kids: []api.Tree{u}}
		}
		if len(slowBound(u)) > 4 {
			continue
		}
		c := truths(t, d, u, 4)
		counts[0], counts[1] = counts[0]+c[0], counts[1]+c[1]
	}
	if min(counts[0], counts[1]) < drawn {
		t.Errorf("true and false %v times", counts)
	}
}

// Every comparison and divisibility of small numbers, on both sides, under all values near its bounds.
func TestP104Atoms(t *testing.T) {
	d := &dice{state: 105}
	for c := -3; c <= 3; c++ {
		for k := -3; k <= 3; k++ {
			left, right := mul(small(max(c, 0)), v("x")), add(mul(small(max(-c, 0)), v("x")), sub(num(max(k, 0)), num(max(-k, 0))))
			atoms := []api.Tree{divides(n(1), sub(left, right)), divides(n(2), sub(left, right)), divides(n(3), sub(right, left)), divides(n(6), add(right, left))}
			for kind := api.TreeLt; kind <= api.TreeGt; kind++ {
				atoms = append(atoms, of(kind, left, right))
			}
			for _, u := range atoms {
				truths(t, d, u, 40)
				truths(t, d, not(u), 40)
			}
		}
	}
}

// sameNode fails unless two formulas have one node, and nothing is made for the second one.
func sameNode(t *testing.T, one, two api.Tree) bool {
	t.Helper()
	a := arena.New(nil)
	id, e := lower.From(a, one)
	if e != api.OK {
		return false
	}
	was := tellArena(a)
	if other, e := lower.From(a, two); other != id || e != api.OK || tellArena(a) != was {
		t.Fatalf("%s has the node %d, %s %d, %v\n%s\n%s", short(tellTree(one)), id, short(tellTree(two)), other, e, short(was), short(tellArena(a)))
	}
	return true
}

func TestP105OneNode(t *testing.T) {
	for _, l := range [][]string{
		{"x < y + 1", "  x<y+1", "x\t<\ny\r+ 1 ", "(x < y + 1)", "(((x < (y + 1))))", "x < (y) + (1)", "not not x < y + 1", "not not not not (x < y + 1)", "y + 1 > x", "not (not (y + 1 > x))"},
		{"x <= y", "y >= x", "not not y >= x", "x<=(y)", "not (x > y)", "not (y < x)"},
		{"2 divides x and y = 1", "2 divides x and(y = 1)", "(2 divides x) and y = 1", "not not 2 divides x and not not y = 1", "not (not (2 divides x and y = 1))"},
		{"a < 1 and b < 1 or c < 1 implies true iff d < 1", "((a < 1 and b < 1) or c < 1 implies true) iff d < 1", "(((a < 1) and (b < 1)) or (c < 1) implies (true)) iff (d < 1)", "1 > a and 1 > b or not not 1 > c implies true iff 1 > d"},
		{"some x . x < y and all z . x < z", "some z . z < y and all x . z < x", "some p . p < y and (all q . p < q)", "some x . (x < y and (all y . x < y))", "some x . not not (y > x and all z . not not z > x)", "some z.z<y and not not all z9.z<z9"},
		{"some x x . x < 1", "some y x . x < 1", "some x y . y < 1", "some p q . 1 > q"}, {"all x . some y . x = y", "all y . some x . y = x", "all b . some a . b = a"}, {"(some x . x < 1) iff (all x . x < 1)", "(some x . x < 1) iff (all y . y < 1)", "(some y . 1 > y) iff all y . 1 > y"},
		{"x < 1 or some x . x < 2", "x < 1 or some y . y < 2", "(x < 1) or (some z1 . 2 > z1)"},
	} {
		one := l[0]
		for _, two := range l[1:] {
			if !sameNode(t, read(t, one), read(t, two)) || !sameNode(t, read(t, two), read(t, one)) {
				t.Errorf("%q, %q: refused", one, two)
			}
		}
	}
}

// A turner tells formulas in other ways: what is bound by other names, each used once; with double nots; turned round.
type turner struct {
	d     *dice
	fresh int
}

func (r *turner) turned(t api.Tree, names map[string]string) api.Tree {
	u := t
	if other, is := names[t.Name]; is && t.Kind == api.TreeVar {
		u.Name = other
	}
	inner := map[string]string{}
	for name, other := range names {
		inner[name] = other
	}
	u.Names, u.Kids = nil, nil
	for _, name := range t.Names {
		inner[name] = "bound" + strconv.Itoa(r.fresh)
		r.fresh++
		u.Names = append(u.Names, inner[name])
	}
	for _, kid := range t.Kids {
		u.Kids = append(u.Kids, r.turned(kid, inner))
	}
	if swapped := map[int]int{api.TreeLt: api.TreeGt, api.TreeGt: api.TreeLt, api.TreeLe: api.TreeGe, api.TreeGe: api.TreeLe}; swapped[t.Kind] > 0 && r.d.roll(2) == 0 {
		u.Kind = swapped[t.Kind]
		slices.Reverse(u.Kids)
	}
	for t.Kind >= api.TreeTrue && r.d.roll(4) == 0 {
		u = not(not(u))
	}
	return u
}

func TestP105DrawnFormulas(t *testing.T) {
	d := &dice{state: 106}
	count := 0
	for range drawn {
		u := d.formula(2+d.roll(5), 1+d.roll(2), false)
		turned := (&turner{d: d}).turned(u, nil)
		if sameNode(t, u, turned) && sameNode(t, turned, u) {
			count++
		}
	}
	if count < drawn/2 {
		t.Errorf("%d were not refused", count)
	}
}

// wordy is a formula's text with a few pairs of parentheses about each formula in it, and blanks between words.
func (d *dice) wordy(t api.Tree) string {
	blank := []string{" ", "  ", "\n", "\t ", " \r\n"}[d.roll(5)]
	text, word := "", ""
	switch t.Kind {
	case api.TreeNot:
		text = "not" + blank + d.wordy(t.Kids[0])
	case api.TreeSome, api.TreeAll:
		text = []string{"some", "all"}[t.Kind-api.TreeSome] + blank + strings.Join(t.Names, blank) + blank + "." + d.wordy(t.Kids[0])
	case api.TreeAnd, api.TreeOr, api.TreeImplies, api.TreeIff:
		word = []string{"and", "or", "implies", "iff"}[t.Kind-api.TreeAnd]
		var kids []string
		for _, kid := range t.Kids {
			kids = append(kids, d.wordy(kid))
		}
		text = strings.Join(kids, blank+word+blank)
	default:
		text, _ = syntax.Print(t)
		text = strings.ReplaceAll(text, " ", blank)
	}
	for range 1 + d.roll(2) {
		text = "(" + text + ")"
	}
	return text
}

func TestP105BlanksAndParentheses(t *testing.T) {
	d := &dice{state: 107}
	count := 0
	for range drawn {
		u := d.formula(2+d.roll(4), 1, false)
		text := d.wordy(u)
		if len(text) > api.MaxText {
			continue
		}
		if sameNode(t, u, read(t, text)) {
			count++
		}
	}
	if count < drawn/2 {
		t.Errorf("%d were read", count)
	}
}
