package raise_test

import (
	"slices"
	"strings"
	"testing"

	"riddle/api"
	"riddle/arena"
	"riddle/atom"
	"riddle/lower"
	"riddle/raise"
	"riddle/syntax"
	"riddle/term"
	"riddle/zint"
)

// few are the integers that quantifiers go over here: what is equivalent under all values, part by part, is so there, too.
func few() []int { return []int{-2, 0, 1, 3} }

// A world has the value of each name.
type world map[string]int

func (w world) with(name string, value int) world {
	other := world{name: value}
	for name, value := range w {
		if _, is := other[name]; !is {
			other[name] = value
		}
	}
	return other
}

func (w world) value(t api.Tree) api.Int {
	kid := func(i int) api.Int { return w.value(t.Kids[i]) }
	switch t.Kind {
	case api.TreeNum:
		return t.N
	case api.TreeVar:
		value, is := w[t.Name]
		if !is {
			panic("a name without a value: " + t.Name)
		}
		return small(value)
	case api.TreeNeg:
		return zint.Neg(kid(0))
	case api.TreeAdd:
		return zint.Add(kid(0), kid(1))
	case api.TreeSub:
		return zint.Sub(kid(0), kid(1))
	}
	return zint.Mul(t.N, kid(0))
}

// is tells whether a formula of the kinds that are raised is true, as mathematics has it.
func (w world) is(t api.Tree) bool {
	isNot := func(t api.Tree) bool { return !w.is(t) }
	with := func(value int) bool { return w.with(t.Names[0], value).is(t.Kids[0]) }
	switch t.Kind {
	case api.TreeTrue, api.TreeFalse:
		return t.Kind == api.TreeTrue
	case api.TreeLt:
		return zint.Cmp(w.value(t.Kids[0]), w.value(t.Kids[1])) < 0
	case api.TreeDivides:
		_, rest, _ := zint.DivMod(w.value(t.Kids[0]), t.N)
		return zint.Sign(rest) == 0
	case api.TreeNot:
		return isNot(t.Kids[0])
	case api.TreeAnd:
		return !slices.ContainsFunc(t.Kids, isNot)
	case api.TreeOr:
		return slices.ContainsFunc(t.Kids, w.is)
	case api.TreeSome:
		return slices.ContainsFunc(few(), with)
	case api.TreeAll:
		return !slices.ContainsFunc(few(), func(value int) bool { return !with(value) })
	}
	panic("a kind that isn't raised")
}

// holds tells whether a node is true under values of its variables.
func holds(t *testing.T, a *arena.Arena, id int, values []api.Value) bool {
	t.Helper()
	node, _ := a.Node(id)
	isSo := func(kid int) bool { return holds(t, a, kid, values) }
	with := func(value int) bool {
		// The first value of a variable counts.
		return holds(t, a, node.Kids[0], append([]api.Value{{Var: node.Var, N: small(value)}}, values...))
	}
	switch node.Kind {
	case api.And:
		return !slices.ContainsFunc(node.Kids, func(kid int) bool { return !isSo(kid) })
	case api.Or:
		return slices.ContainsFunc(node.Kids, isSo)
	case api.Some:
		return slices.ContainsFunc(few(), with)
	case api.All:
		return !slices.ContainsFunc(few(), func(value int) bool { return !with(value) })
	}
	is, e := atom.Holds(api.Atom{Kind: node.Kind, D: node.D, T: node.T}, values)
	if e != api.OK {
		t.Fatalf("node %d: %v", id, e)
	}
	return is
}

// drawnValues are values of the variables that have names, as such, and by the names.
func (d *dice) drawnValues(names []string) ([]api.Value, world) {
	var values []api.Value
	w := world{}
	for v, name := range names {
		w[name] = d.roll(15) - 7
		values = append(values, api.Value{Var: v, N: small(w[name])})
	}
	return values, w
}

// wantMayBe fails unless a formula may be, but for its depth, and its free names are those of the variables.
func wantMayBe(t *testing.T, u api.Tree, vars []int, names []string) {
	t.Helper()
	if e := syntax.Check(u); e != api.OK && e != api.ErrDepth {
		t.Fatalf("%s may not be: %v", short(tellTree(u)), e)
	}
	var want []string
	for _, v := range vars {
		want = append(want, names[v])
	}
	slices.Sort(want)
	if free := syntax.Free(u); !slices.Equal(free, want) {
		t.Fatalf("%s has the free names %q, want %q", short(tellTree(u)), free, want)
	}
}

// truths fails unless a node's tree may be, and is true under drawn values just where the node is; it tells how often it
// was, and how often not.
func truths(t *testing.T, d *dice, a *arena.Arena, id int, names []string, times int) (counts [2]int) {
	t.Helper()
	u, e := raise.To(a, id, names)
	if e != api.OK {
		return counts
	}
	wantMayBe(t, u, a.Free(id), names)
	for range times {
		values, w := d.drawnValues(names)
		is := holds(t, a, id, values)
		if is != w.is(u) {
			t.Fatalf("node %d is %v under %v, its tree %s isn't", id, is, w, short(tellTree(u)))
		}
		if is {
			counts[0]++
		} else {
			counts[1]++
		}
	}
	return counts
}

func TestP114TrueUnderTheSameValues(t *testing.T) {
	d := &dice{state: 203}
	var counts [2]int
	for range drawn / 20 {
		a, ids := d.grown(t, 10+d.roll(40), 0, 1+d.roll(5), true)
		for _, id := range ids {
			c := truths(t, d, a, id, d.names(6+d.roll(5)), 6)
			counts[0], counts[1] = counts[0]+c[0], counts[1]+c[1]
		}
	}
	if min(counts[0], counts[1]) < 2*drawn {
		t.Errorf("true and false %v times", counts)
	}
}

// Likewise with quantifiers, of which few are within one another.
func TestP114Quantifiers(t *testing.T) {
	d := &dice{state: 204}
	var counts [2]int
	for range drawn / 20 {
		a, ids := d.grown(t, 10+d.roll(30), -1, 1+d.roll(5), false)
		for _, id := range ids {
			if len(slowBound(a, id)) > 4 || slowSize(a, id) > 200 {
				continue
			}
			c := truths(t, d, a, id, d.names(6+d.roll(5)), 4)
			counts[0], counts[1] = counts[0]+c[0], counts[1]+c[1]
		}
	}
	if min(counts[0], counts[1]) < drawn {
		t.Errorf("true and false %v times", counts)
	}
}

// Of atoms and terms: they may be, and their values are the same.
func TestP114AtomsAndTerms(t *testing.T) {
	d := &dice{state: 205}
	isZeroed := func(u api.Tree) api.Tree { return of(api.TreeEq, u, num(0)) }
	for range drawn {
		names := d.names(6)
		x, y := d.atom(3, 0, 5), d.term(3, 0, 5)
		u, e := raise.Atom(x, names)
		w, e2 := raise.Term(y, names)
		form, _ := atom.Norm(x)
		if e != api.OK || e2 != api.OK {
			t.Fatalf("%s, %s: %v, %v", tellAtom(x), tellTerm(y), e, e2)
		}
		wantMayBe(t, u, term.Vars(form.T), names)
		wantMayBe(t, isZeroed(w), term.Vars(y), names)
		for range 5 {
			values, named := d.drawnValues(names)
			if is, e := atom.Holds(x, values); e != api.OK || named.is(u) != is {
				t.Fatalf("%s, %v: not %v under %v", tellAtom(x), e, is, named)
			}
			if value, e := term.Eval(y, values); e != api.OK || zint.Cmp(named.value(w), value) != 0 {
				t.Fatalf("%s, %v: not %s under %v", tellTerm(y), e, zint.Text(value), named)
			}
		}
	}
}

// Every small comparison and divisibility, under all values near its bounds.
func TestP114SmallAtoms(t *testing.T) {
	for c := -3; c <= 3; c++ {
		for k := -3; k <= 3; k++ {
			for _, x := range []api.Atom{less(linear(k, c)), less(linear(k, c, 2)), less(linear(k, -2, c)), div(2, linear(k, c)), div(3, linear(k, c)), div(6, linear(k, c, 4)), not(2, linear(k, c)), not(3, linear(k, c, 1)), not(6, linear(k, c))} {
				u, e := raise.Atom(x, []string{"x", "y"})
				if e != api.OK {
					t.Fatal(e)
				}
				for i := range 81 {
					w := world{"x": i/9 - 4, "y": i%9 - 4}
					if is, _ := atom.Holds(x, []api.Value{{Var: 0, N: small(w["x"])}, {Var: 1, N: small(w["y"])}}); is != w.is(u) {
						t.Fatalf("%s is not %v under %v", tellTree(u), is, w)
					}
				}
			}
		}
	}
}

// A tree that is too deep for a text may be but for that.
func TestP114Deep(t *testing.T) {
	m := newMaker(t)
	id := m.less(0, 1)
	for i := range 100 {
		id = m.some(5+i, m.or(id, 0))
	}
	wide := m.atom(div(7, sum(70, 0, 0)))
	for id, vars := range map[int][]int{id: {0}, wide: m.a.Free(wide)} {
		u, e := raise.To(m.a, id, manyNames(70))
		if e != api.OK || syntax.Check(u) != api.ErrDepth {
			t.Errorf("node %d: %v, %v", id, e, syntax.Check(u))
		}
		wantMayBe(t, u, vars, manyNames(70))
	}
}

// Term's tree, lowered with the same names, is the term.
func TestP115Terms(t *testing.T) {
	d := &dice{state: 206}
	for range drawn {
		names := d.names(1 + d.roll(12))
		x := d.term(1+d.roll(8), 0, len(names)-1)
		u, e := raise.Term(x, names)
		back, e2 := lower.Term(u, names)
		if e != api.OK || e2 != api.OK || tellTerm(back) != tellTerm(term.Norm(x)) {
			t.Fatalf("%s, %q: %s, %v; back %s, %v", tellTerm(x), names, tellTree(u), e, tellTerm(back), e2)
		}
	}
	// As many parts as may be lowered: one more is too deep.
	for many := range 58 {
		x, names := sum(many, many/2, -3), manyNames(58)
		u, e := raise.Term(x, names)
		back, e2 := lower.Term(u, names)
		if e != api.OK || e2 != api.OK || tellTerm(back) != tellTerm(x) {
			t.Fatalf("%d parts: %v, %v", many, e, e2)
		}
	}
}

// Atom's tree, lowered, is the same atom, where its variables are 0, 1 .. and their names rise.
func TestP115Atoms(t *testing.T) {
	d := &dice{state: 207}
	kinds := map[int]int{}
	for range 2 * drawn {
		x := d.atom(3, 0, d.roll(4))
		form, _ := atom.Norm(x)
		for i, v := range term.Vars(form.T) {
			if v != i {
				form.Kind = -1
			}
		}
		if form.Kind < 0 {
			continue
		}
		names := d.names(6)
		slices.Sort(names)
		u, e := raise.Atom(x, names)
		a := arena.New(nil)
		id, e2 := lower.From(a, u)
		node, _ := a.Node(id)
		if back := (api.Atom{Kind: node.Kind, D: node.D, T: node.T}); e != api.OK || e2 != api.OK || tellAtom(back) != tellAtom(form) {
			t.Fatalf("%s, %q: %s, %v; back %s, %v", tellAtom(x), names, tellTree(u), e, tellAtom(back), e2)
		}
		kinds[form.Kind]++
	}
	if min(kinds[api.False], kinds[api.True], kinds[api.Less], kinds[api.Div], kinds[api.Not]) < drawn/20 {
		t.Errorf("kinds %v", kinds)
	}
}

// A plain node raised and lowered again is equivalent to it.
func TestQ7ThereAndBack(t *testing.T) {
	d := &dice{state: 208}
	back, refused := 0, map[api.Errno]int{}
	for range drawn / 20 {
		a, ids := d.grown(t, 10+d.roll(40), 0, 1+d.roll(5), true)
		for _, id := range ids {
			names := d.names(6)
			u, e := raise.To(a, id, names)
			other := arena.New(nil)
			came, e2 := lower.From(other, u)
			if refused[max(e, e2)]++; e != api.OK || e2 != api.OK {
				continue
			}
			for range 3 {
				values, w := d.drawnValues(names)
				var its []api.Value
				// The variables of what is lowered are numbered by its free names.
				for v, name := range syntax.Free(u) {
					its = append(its, api.Value{Var: v, N: small(w[name])})
				}
				if holds(t, other, came, its) != holds(t, a, id, values) {
					t.Fatalf("node %d: %s under %v", id, short(tellTree(u)), w)
				}
				back++
			}
		}
	}
	if back < drawn || len(refused) > 2 || refused[api.ErrStore] > back/10 {
		t.Errorf("%d were lowered, refused %v", back, refused)
	}
}

// The text of what is raised is read as it, where it is not too long.
func TestQ7Texts(t *testing.T) {
	d := &dice{state: 209}
	count := 0
	for range drawn / 40 {
		a, ids := d.grown(t, 10+d.roll(40), 0, 1+d.roll(5), false)
		for _, id := range ids {
			u, e := raise.To(a, id, d.names(6))
			text, e2 := syntax.Print(u)
			if e != api.OK || e2 != api.OK {
				continue
			}
			if again := read(t, text); !syntax.Same(u, again) || strings.Contains(text, "--") {
				t.Fatalf("%s is read as %s", text, tellTree(again))
			}
			count++
		}
	}
	if count < drawn/4 {
		t.Errorf("%d were read", count)
	}
}
