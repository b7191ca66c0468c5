package lower_test

import (
	"slices"
	"strings"
	"testing"

	"riddle/api"
	"riddle/lower"
	"riddle/syntax"
	"riddle/term"
)

// linear is a term of a constant, and of coefficients of the variables 0, 1, 2 ..
func linear(k int, coefs ...int) api.Term {
	t := api.Term{K: small(k)}
	for v, c := range coefs {
		if c != 0 {
			t.Parts = append(t.Parts, api.Part{Var: v, C: small(c)})
		}
	}
	return t
}

func wantTerm(t *testing.T, what string, u api.Tree, names []string, want api.Term) {
	t.Helper()
	got, e := lower.Term(u, names)
	if e != api.OK || tellTerm(got) != tellTerm(want) || !term.Valid(got) {
		t.Errorf("Term(%s, %q): %s, %v, want %s", what, names, tellTerm(got), e, tellTerm(want))
	}
}

func wantNoTerm(t *testing.T, what string, u api.Tree, names []string, want api.Errno) {
	t.Helper()
	if got, e := lower.Term(u, names); e != want || tellTerm(got) != tellTerm(api.Term{}) || len(got.Parts) > 0 {
		t.Errorf("Term(%s, %q): %s, %v, want %v", what, names, tellTerm(got), e, want)
	}
}

// termOf is the term of a text.
func termOf(t *testing.T, text string) api.Tree {
	t.Helper()
	return read(t, "0 = "+text).Kids[1]
}

func TestP103EachKind(t *testing.T) {
	for _, l := range []struct {
		text, names string
		want        api.Term
	}{
		{"5", "", linear(5)}, {"0", "x y", linear(0)}, {"x", "x", linear(0, 1)}, {"y", "x y", linear(0, 0, 1)}, {"-x", "x", linear(0, -1)}, {"-7", "", linear(-7)}, {"--x", "x", linear(0, 1)},
		{"x + y", "x y", linear(0, 1, 1)}, {"x + y", "y x", linear(0, 1, 1)}, {"x - y", "x y", linear(0, 1, -1)}, {"x - y", "y x", linear(0, -1, 1)}, {"3 * x", "x", linear(0, 3)}, {"0 * x", "x", linear(0)}, {"3 * 4", "", linear(12)}, {"x - 1", "x", linear(-1, 1)},
		{"2 * (x - y) + 3", "x y", linear(3, 2, -2)}, {"x + x - 3 * x", "x", linear(0, -1)}, {"x - x", "x", linear(0)}, {"2 * x - (y - 3 * (x + -y - 4))", "x y", linear(-12, 5, -4)}, {"-(2 * (3 * (x + 1)))", "x", linear(-6, -6)}, {"1 - (2 - (3 - x))", "x", linear(2, -1)},
		{"x - y - z", "x y z", linear(0, 1, -1, -1)}, {"x - (y - z)", "x y z", linear(0, 1, -1, 1)},
		// A name that comes several times has its first place; names that are not asked for don't matter, whatever they are.
		{"x + 2 * y", "x x y x y", linear(0, 1, 0, 2)}, {"y", "x x y y", linear(0, 0, 0, 1)}, {"c", "a b c d c", linear(0, 0, 0, 1)}, {"x", "and 9 x ~", linear(0, 0, 0, 1)},
	} {
		wantTerm(t, l.text, termOf(t, l.text), strings.Fields(l.names), l.want)
	}
	wantTerm(t, "x", v("x"), []string{"", "some", "x", ""}, linear(0, 0, 0, 1))
}

func TestP103GreatNumbers(t *testing.T) {
	for _, limbs := range []int{1, 2, 8, 9, 300} {
		most := widest(limbs)
		beyond := n(append(make([]uint32, limbs), 1)...)
		wantTerm(t, "most + 1", add(great(most), num(1)), nil, api.Term{K: beyond})
		wantTerm(t, "most * x + x", add(mul(most, v("x")), v("x")), []string{"x"}, api.Term{Parts: []api.Part{{C: beyond}}})
		wantTerm(t, "most * x - beyond * x - most", sub(sub(mul(most, v("x")), mul(beyond, v("x"))), great(most)), []string{"x"}, api.Term{Parts: []api.Part{{C: small(-1)}}, K: api.Int{Neg: true, Mag: most.Mag}})
		wantTerm(t, "beyond * (beyond * x)", mul(beyond, mul(beyond, v("x"))), []string{"x"}, api.Term{Parts: []api.Part{{C: n(append(make([]uint32, 2*limbs), 1)...)}}})
		wantTerm(t, "beyond * x - beyond * x", sub(mul(beyond, v("x")), mul(beyond, v("x"))), []string{"x"}, api.Term{})
	}
}

// A name that is none of names is ErrFree, also where nothing comes of it.
func TestP103Free(t *testing.T) {
	for _, l := range []struct{ text, names string }{
		{"z", "x y"}, {"x", ""}, {"x + y", "x"}, {"x + y", "y"}, {"0 * z", "x y"}, {"z - z", "x y"}, {"2 * (x - (3 - -z))", "x y zz Z"}, {"x", "X xx y"},
	} {
		wantNoTerm(t, l.text, termOf(t, l.text), strings.Fields(l.names), api.ErrFree)
	}
	wantNoTerm(t, "x", v("x"), []string{"x ", " x", "", "x\x00"}, api.ErrFree)
	wantNoTerm(t, "x", v("x"), nil, api.ErrFree)
}

// What is no term that may be is ErrArg; one that is too deep below a comparison is ErrDepth: ahead of ErrFree.
func TestP103Refused(t *testing.T) {
	for _, text := range []string{"true", "x < 1", "not x < 1", "x < 1 and y < 1", "some x . x < 1", "x = 0"} {
		wantNoTerm(t, text, read(t, text), []string{"x", "y"}, api.ErrArg)
		wantNoTerm(t, text, read(t, text), nil, api.ErrArg)
	}
	for _, l := range []struct {
		what string
		u    api.Tree
		e    api.Errno
	}{
		{"nothing", api.Tree{}, api.ErrArg}, {"no kind", of(77), api.ErrArg}, {"no kind below 0", of(-1), api.ErrArg}, {"a sum of one", of(api.TreeAdd, v("x")), api.ErrArg}, {"a sum of three", of(api.TreeAdd, v("x"), v("x"), v("x")), api.ErrArg}, {"an opposite of none", of(api.TreeNeg), api.ErrArg},
		{"no name", v(""), api.ErrArg}, {"a word", v("or"), api.ErrArg}, {"a long name", v(strings.Repeat("x", 25)), api.ErrArg}, {"a number below 0", num(-1), api.ErrArg}, {"a number with a nought", great(n(1, 0)), api.ErrArg}, {"a factor below 0", mul(small(-2), v("x")), api.ErrArg}, {"a number with a name", api.Tree{Kind: api.TreeNum, Name: "x"}, api.ErrArg}, {"a variable with a number", api.Tree{Kind: api.TreeVar, Name: "x", N: n(1)}, api.ErrArg},
		{"a variable with names", api.Tree{Kind: api.TreeVar, Name: "x", Names: []string{"x"}}, api.ErrArg}, {"a formula in a sum", add(v("x"), yes()), api.ErrArg}, {"by 0", divides(api.Int{}, v("x")), api.ErrArg}, {"by 0 in a sum", add(v("x"), divides(api.Int{}, v("x"))), api.ErrArg}, {"too deep", over(mostDeep-1, v("x"), neg), api.ErrDepth}, {"much too deep", over(1000, v("x"), neg), api.ErrDepth}, {"too deep and wrong", over(1000, v(""), neg), api.ErrArg},
	} {
		wantNoTerm(t, l.what, l.u, []string{"x"}, l.e)
		wantNoTerm(t, l.what, l.u, nil, l.e)
		if e := syntax.Check(of(api.TreeEq, l.u, num(0))); e != l.e {
			t.Errorf("Check of %s = 0: %v, want %v", l.what, e, l.e)
		}
	}
	for _, r := range refusals() {
		wantNoTerm(t, r.of, and(r.tree, r.tree), nil, api.ErrArg)
	}
	wantTerm(t, "as deep as may be", over(mostDeep-2, v("x"), neg), []string{"x"}, linear(0, 1))
	wantNoTerm(t, "as deep as may be", over(mostDeep-2, v("x"), neg), []string{"y"}, api.ErrFree)
}

// The chapter's examples; a term reads the names that Names tells.
func TestTermExamples(t *testing.T) {
	names := []string{"x", "y"}
	wantTerm(t, "2 * (x - y) + 3", termOf(t, "2 * (x - y) + 3"), names, linear(3, 2, -2))
	wantNoTerm(t, "z", v("z"), names, api.ErrFree)
	wantNoTerm(t, "a formula", read(t, "x < y"), names, api.ErrArg)
	u := read(t, "3 * c - a < b + 1")
	wantTerm(t, "3 * c - a", u.Kids[0], lower.Names(u), linear(0, -1, 0, 3))
	if !slices.Equal(lower.Names(u), []string{"a", "b", "c"}) {
		t.Errorf("Names: %q", lower.Names(u))
	}
}
