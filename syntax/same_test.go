package syntax_test

import (
	"slices"
	"sort"
	"strconv"
	"strings"
	"testing"

	"riddle/api"
	"riddle/syntax"
)

// alone has numbers as they should stand, reckoned here a second time; all else is as it is.
func alone(t api.Tree) api.Tree {
	for len(t.N.Mag) > 0 && t.N.Mag[len(t.N.Mag)-1] == 0 {
		t.N.Mag = t.N.Mag[:len(t.N.Mag)-1]
	}
	t.N.Neg = t.N.Neg && len(t.N.Mag) > 0
	t.Kids = slices.Clone(t.Kids)
	for i := range t.Kids {
		t.Kids[i] = alone(t.Kids[i])
	}
	return t
}

// wantSame fails unless Same says so of two trees, whichever stands first.
func wantSame(t *testing.T, a, b api.Tree, want bool) {
	t.Helper()
	if syntax.Same(a, b) != want || syntax.Same(b, a) != want {
		t.Errorf("Same(%s, %s): not %t", tell(a), tell(b), want)
	}
}

// Of one tree and another each pair differs in one thing alone.
func TestP44SameFieldByField(t *testing.T) {
	base := api.Tree{Kind: api.TreeSome, Name: "n", Names: []string{"x", "y"}, N: n(3, 4), Kids: []api.Tree{num(1), yes()}}
	wantSame(t, base, base, true)
	for _, change := range []func(t *api.Tree){
		func(t *api.Tree) { t.Kind = api.TreeAll },
		func(t *api.Tree) { t.Kind = -5 },
		func(t *api.Tree) { t.Name = "" },
		func(t *api.Tree) { t.Name = "N" },
		func(t *api.Tree) { t.Names = nil },
		func(t *api.Tree) { t.Names = []string{"x"} },
		func(t *api.Tree) { t.Names = []string{"y", "x"} },
		func(t *api.Tree) { t.Names = []string{"x", "y", "y"} },
		func(t *api.Tree) { t.Names = []string{"xy", ""} },
		func(t *api.Tree) { t.N = api.Int{} },
		func(t *api.Tree) { t.N = n(3) },
		func(t *api.Tree) { t.N = n(3, 5) },
		func(t *api.Tree) { t.N = api.Int{Neg: true, Mag: []uint32{3, 4}} },
		func(t *api.Tree) { t.Kids = nil },
		func(t *api.Tree) { t.Kids = []api.Tree{num(1)} },
		func(t *api.Tree) { t.Kids = []api.Tree{yes(), num(1)} },
		func(t *api.Tree) { t.Kids = []api.Tree{num(1), yes(), yes()} },
		func(t *api.Tree) { t.Kids = []api.Tree{num(1), not(yes())} },
	} {
		other := alone(base)
		change(&other)
		wantSame(t, base, other, false)
		wantSame(t, not(and(yes(), base)), not(and(yes(), other)), false)
		wantSame(t, other, alone(other), true)
	}
}

// Numbers are the same by what they say; nil and empty lists are the same.
func TestP44SameNumbers(t *testing.T) {
	say := func(k api.Int) api.Tree { return not(api.Tree{Kind: 77, N: k}) }
	minus := func(l ...uint32) api.Int { return api.Int{Neg: true, Mag: l} }
	wantSame(t, say(n(5, 0)), say(n(5)), true)
	wantSame(t, say(minus(5, 0, 0)), say(minus(5)), true)
	wantSame(t, say(minus()), say(n()), true)
	wantSame(t, say(minus(0, 0)), say(api.Int{}), true)
	wantSame(t, say(minus(5)), say(n(5)), false)
	wantSame(t, say(n(5)), say(n(5, 1)), false)
	wantSame(t, api.Tree{Names: []string{}, Kids: []api.Tree{}, N: n()}, api.Tree{}, true)
	wantSame(t, api.Tree{Names: []string{""}}, api.Tree{}, false)
}

func TestP44SameAnyTree(t *testing.T) {
	d := &dice{state: 21}
	var l []api.Tree
	for range 300 {
		l = append(l, d.wild(3), d.formula(3))
	}
	same := 0
	for _, a := range l {
		for _, b := range l {
			want := tell(alone(a)) == tell(alone(b))
			if want {
				same++
			}
			wantSame(t, a, b, want)
		}
	}
	for range 3000 {
		a := d.formula(5)
		wantSame(t, a, alone(a), true)
		b := d.spoilt(a)
		wantSame(t, a, b, tell(alone(a)) == tell(alone(b)))
	}
	if same <= len(l) {
		t.Error("only each with itself")
	}
}

func TestP44Copy(t *testing.T) {
	d := &dice{state: 22}
	check := func(u api.Tree) {
		got := syntax.Copy(u)
		if tell(got) != tell(alone(u)) || !syntax.Same(got, u) {
			t.Errorf("Copy(%s): %s", tell(u), tell(got))
		}
	}
	for range 5000 {
		check(d.wild(5))
		check(d.formula(5))
		check(d.spoilt(d.formula(4)))
	}
	check(api.Tree{})
	check(api.Tree{Kind: -9, Name: "\x00", Names: []string{"", "and", ""}, N: api.Int{Neg: true, Mag: []uint32{0, 7, 0}}, Kids: make([]api.Tree, 3)})
	for _, k := range []api.Int{{Neg: true}, n(0), n(5, 0, 0), {Neg: true, Mag: []uint32{0, 0}}, {Neg: true, Mag: []uint32{5, 0}}} {
		check(api.Tree{Kind: api.TreeMul, N: k, Kids: []api.Tree{{Kind: api.TreeNum, N: k}}})
	}
}

// freeIn are the free names, from what is bound above.
func freeIn(t api.Tree, bound map[string]bool) map[string]bool {
	free := map[string]bool{}
	if t.Kind == api.TreeVar && !bound[t.Name] {
		free[t.Name] = true
	}
	inner := map[string]bool{}
	for name := range bound {
		inner[name] = true
	}
	for _, name := range t.Names {
		if t.Kind == api.TreeSome || t.Kind == api.TreeAll {
			inner[name] = true
		}
	}
	for _, kid := range t.Kids {
		for name := range freeIn(kid, inner) {
			free[name] = true
		}
	}
	return free
}

func wantFree(t *testing.T, u api.Tree) {
	t.Helper()
	var want []string
	for name := range freeIn(u, nil) {
		want = append(want, name)
	}
	sort.Strings(want)
	if got := syntax.Free(u); !slices.Equal(got, want) {
		t.Errorf("Free(%s): %q, want %q", tell(u), got, want)
	}
}

func TestP44Free(t *testing.T) {
	for _, c := range []struct{ text, want string }{
		{"true", ""}, {"x < 1", "x"}, {"y < x", "x y"}, {"x + x < x", "x"}, {"some x . x < y and all y . z = x + y", "y z"},
		{"some x . x < 1", ""}, {"(some x . x < 1) and x < 1", "x"}, {"x < 1 and some x . x < 1", "x"}, {"some x x . x < y", "y"},
		{"some x . some x . x < 1", ""}, {"some x . (some x . x < 1) and x < y", "y"}, {"some x y z . x < y + z + w", "w"}, {"some x . all y . y < x", ""},
		{"(some x . y < 1) and (some y . x < 1)", "x y"}, {"b < B and a_ < a and Z < a0", "B Z a a0 a_ b"}, {"2 divides -(3 * q)", "q"}, {"a10 < a9 and a1 < a", "a a1 a10 a9"},
	} {
		u, m := syntax.Parse(c.text)
		if got := strings.Join(syntax.Free(u), " "); m.Code != api.OK || got != c.want {
			t.Errorf("Free of %q: %q, want %q", c.text, got, c.want)
		}
		wantFree(t, u)
	}
}

// Trees that may not be have free names, too: whatever a variable's name is, and whatever hangs below what.
func TestP44FreeAnyTree(t *testing.T) {
	low := api.Tree{Kind: api.TreeVar, Name: "x", Kids: []api.Tree{v("y"), v("")}}
	for _, u := range []api.Tree{
		v("x"), v(""), v("and"), low, some("x", low), api.Tree{Kind: api.TreeSome, Names: []string{"", "y"}, Kids: []api.Tree{low, low}},
		{Kind: api.TreeSome, Name: "x", Kids: []api.Tree{low}}, {Kind: api.TreeAnd, Names: []string{"x"}, Kids: []api.Tree{low}}, {Kind: api.TreeNot, Name: "z"},
		{Kind: api.TreeVar, Names: []string{"x", "y"}, Name: "x", Kids: []api.Tree{low}}, {Kind: 0, Kids: []api.Tree{low}}, {Kind: api.TreeAll, Names: []string{"y", "y"}, Kids: []api.Tree{some("y", v("y")), v("y"), v("x")}},
		{Kind: api.TreeAll, Names: []string{"\xff"}, Kids: []api.Tree{v("\xff"), v("\xfe"), v("\x00")}},
	} {
		wantFree(t, u)
	}
	d := &dice{state: 23}
	for range 5000 {
		wantFree(t, d.wild(6))
		wantFree(t, d.formula(6))
		wantFree(t, d.spoilt(d.formula(5)))
	}
	row := and()
	for i := range 3000 {
		row.Kids = append(row.Kids, some("n"+strconv.Itoa(i), below1("n"+strconv.Itoa(i*7%3001))))
	}
	wantFree(t, row)
}

func count(t api.Tree) int {
	n := 1
	for _, kid := range t.Kids {
		n += count(kid)
	}
	return n
}

func TestP44Size(t *testing.T) {
	wide := func(kids int) api.Tree { return api.Tree{Kids: make([]api.Tree, kids)} }
	for _, c := range []struct {
		u    api.Tree
		want int
	}{
		{api.Tree{}, 1}, {yes(), 1}, {below1("x"), 3}, {some("x y z", below1("x")), 4}, {and(yes(), yes(), not(no())), 5},
		{wide(2998), 2999}, {wide(2999), 3000}, {wide(3000), tooMany}, {wide(3001), tooMany}, {wide(50000), tooMany},
		{over(2999, yes(), not), 3000}, {over(3000, yes(), not), tooMany}, {over(9000, yes(), not), tooMany},
		{of(0, wide(1498), wide(1499)), 3000}, {of(0, wide(1499), wide(1499)), tooMany}, {of(0, over(2000, no(), neg), wide(998)), 3000 + 1},
		{of(0, over(1999, no(), neg), wide(998)), 3000}, {over(2997, below1("x"), not), 3000}, {over(2998, below1("x"), not), tooMany},
	} {
		if got := syntax.Size(c.u); got != c.want {
			t.Error("Size", got, c.want)
		}
	}
	d := &dice{state: 24}
	for range 5000 {
		for _, u := range []api.Tree{d.wild(5), d.formula(6)} {
			if got := syntax.Size(u); got != min(count(u), tooMany) {
				t.Errorf("Size(%s): %d", tell(u), got)
			}
		}
	}
}
