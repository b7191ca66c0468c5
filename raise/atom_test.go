package raise_test

import (
	"math"
	"strings"
	"testing"

	"riddle/api"
	"riddle/atom"
	"riddle/raise"
)

func wantAtom(t *testing.T, x api.Atom, names string, want api.Tree) {
	t.Helper()
	got, e := raise.Atom(x, strings.Fields(names))
	if e != api.OK || tellTree(got) != tellTree(want) {
		t.Errorf("Atom(%s, %q): %s, %v, want %s", tellAtom(x), names, tellTree(got), e, tellTree(want))
	}
}

func wantNoAtom(t *testing.T, x api.Atom, names []string, want api.Errno) {
	t.Helper()
	if got, e := raise.Atom(x, names); e != want || !isZero(got) {
		t.Errorf("Atom(%s, %q): %s, %v, want %v", tellAtom(x), names, tellTree(got), e, want)
	}
}

// The chapter's examples.
func TestAtomExamples(t *testing.T) {
	for text, x := range map[string]api.Atom{"y < x + 2": less(linear(2, 1, -1)), "x + 1 < 0": less(linear(-1, -1)), "not 3 divides x": not(3, linear(0, 1)), "3 < x": less(linear(-3, 1)), "y < x": less(linear(0, 1, -1))} {
		wantAtom(t, x, "x y", read(t, text))
	}
	wantNoAtom(t, div(0, linear(0, 1)), []string{"x", "y"}, api.ErrZero)
}

// Each tree by hand, of atoms that stand as they should.
func TestP112EachKind(t *testing.T) {
	x, y, z := v("x"), v("y"), v("z")
	for _, l := range []struct {
		x    api.Atom
		want api.Tree
	}{
		{api.Atom{Kind: api.True}, of(api.TreeTrue)}, {api.Atom{Kind: api.False}, of(api.TreeFalse)},
		// Of a Less what is below 0 stands on the first side, its sign turned; a side without anything is 0.
		{less(linear(0, 1)), lt(num(0), x)}, {less(linear(0, -1)), lt(x, num(0))}, {less(linear(3, 1)), lt(num(0), add(x, num(3)))}, {less(linear(-3, 1)), lt(num(3), x)}, {less(linear(3, -1)), lt(x, num(3))}, {less(linear(-3, -1)), lt(add(x, num(3)), num(0))}, {less(linear(1, -1)), lt(x, num(1))},
		{less(linear(0, 1, 1)), lt(num(0), add(x, y))}, {less(linear(0, 1, -1)), lt(y, x)}, {less(linear(0, -1, 1)), lt(x, y)}, {less(linear(0, -1, -1)), lt(add(x, y), num(0))}, {less(linear(0, 2, -3)), lt(mul(n(3), y), mul(n(2), x))},
		{less(linear(5, 2, -3)), lt(mul(n(3), y), add(mul(n(2), x), num(5)))}, {less(linear(-5, 2, -3)), lt(add(mul(n(3), y), num(5)), mul(n(2), x))}, {less(linear(5, -2, -3)), lt(add(mul(n(2), x), mul(n(3), y)), num(5))}, {less(linear(-5, -2, -3)), lt(add(add(mul(n(2), x), mul(n(3), y)), num(5)), num(0))}, {less(linear(-5, 2, 3)), lt(num(5), add(mul(n(2), x), mul(n(3), y)))},
		{less(linear(0, 1, -1, 1)), lt(y, add(x, z))}, {less(linear(-1, -1, 1, -1)), lt(add(add(x, z), num(1)), y)}, {less(linear(1, -1, 1, -1)), lt(add(x, z), add(y, num(1)))},
		// Of a divisibility the term stands as a whole.
		{div(2, linear(0, 1)), divides(n(2), x)}, {div(3, linear(1, 1)), divides(n(3), add(x, num(1)))}, {div(7, linear(3, 1, 5)), divides(n(7), add(add(x, mul(n(5), y)), num(3)))}, {div(5, linear(0, 2, 1, 3)), divides(n(5), add(add(mul(n(2), x), y), mul(n(3), z)))},
		{not(2, linear(0, 1)), of(api.TreeNot, divides(n(2), x))}, {not(3, linear(1, 1)), of(api.TreeNot, divides(n(3), add(x, num(1))))}, {not(7, linear(3, 1, 5)), of(api.TreeNot, divides(n(7), add(add(x, mul(n(5), y)), num(3))))},
	} {
		if !atom.Valid(l.x) {
			t.Errorf("%s doesn't stand as it should", tellAtom(l.x))
		}
		wantAtom(t, l.x, "x y z", l.want)
		wantAtom(t, l.x, "x y z x1 y1", l.want)
	}
}

func TestP112GreatNumbers(t *testing.T) {
	x, y := v("x"), v("y")
	for _, limbs := range []int{1, 2, 8, 9, 100} {
		most, next := widest(limbs), n(append(make([]uint32, limbs), 1)...)
		parts := func(a, b api.Int) []api.Part { return []api.Part{{Var: 0, C: a}, {Var: 1, C: b}} }
		wantAtom(t, less(api.Term{Parts: parts(most, below(next)), K: below(most)}), "x y", lt(add(mul(next, y), great(most)), mul(most, x)))
		wantAtom(t, less(api.Term{Parts: parts(below(most), next), K: next}), "x y", lt(mul(most, x), add(mul(next, y), great(next))))
		wantAtom(t, api.Atom{Kind: api.Div, D: below(next), T: api.Term{Parts: parts(small(1), most), K: most}}, "x y", divides(next, add(add(x, mul(most, y)), great(most))))
		wantAtom(t, api.Atom{Kind: api.Not, D: next, T: api.Term{Parts: parts(small(1), most), K: most}}, "x y", of(api.TreeNot, divides(next, add(add(x, mul(most, y)), great(most)))))
	}
}

// The tree is that of Norm's answer, and so are the variables that must have names.
func TestP112RawAtoms(t *testing.T) {
	for _, l := range []struct {
		x    api.Atom
		text string
	}{
		{less(linear(3, 2)), "0 < x + 2"}, {less(linear(1, -3)), "x < 1"}, {less(linear(0)), "false"}, {less(linear(1)), "true"}, {less(linear(-1)), "false"}, {div(4, linear(2, 6)), "2 divides x + 1"}, {div(4, linear(1, 2)), "false"}, {div(-6, linear(2, 4)), "3 divides x + 2"}, {div(1, linear(0, 1)), "true"}, {div(5, linear(10)), "true"}, {div(5, linear(3)), "false"},
		{not(4, linear(1, 2)), "true"}, {not(1, linear(0, 1)), "false"}, {not(-6, linear(2, 4)), "not 3 divides x + 2"}, {div(3, linear(-1, -1, 3)), "3 divides x + 1"}, {div(3, linear(1, -1)), "3 divides x + 2"},
		// Fields that the kind gives no meaning don't count.
		{api.Atom{Kind: api.True, D: small(5), T: of1(9)}, "true"}, {api.Atom{Kind: api.False, D: small(0), T: of1(-9)}, "false"}, {api.Atom{Kind: api.Less, D: small(-7), T: linear(0, 1)}, "0 < x"},
		// Variables that fall away need no name.
		{less(api.Term{Parts: []api.Part{{Var: 0, C: small(1)}, {Var: 9}, {Var: -4, C: small(2)}, {Var: -4, C: small(-2)}}}), "0 < x"}, {less(api.Term{Parts: []api.Part{{Var: 9, C: n(0, 0)}}, K: small(2)}), "true"},
		{div(3, api.Term{Parts: []api.Part{{Var: 0, C: small(4)}, {Var: 9, C: small(6)}, {Var: -1, C: small(-3)}}}), "3 divides x"}, {div(2, api.Term{Parts: []api.Part{{Var: 9, C: small(2)}}}), "true"}, {not(2, api.Term{Parts: []api.Part{{Var: 9, C: small(2)}}}), "false"}, {div(2, api.Term{Parts: []api.Part{{Var: 9, C: small(2)}}, K: small(1)}), "false"}, {div(4, api.Term{Parts: []api.Part{{Var: 9, C: small(2)}}, K: small(1)}), "false"}, {div(-1, of1(math.MinInt)), "true"}, {not(1, of1(math.MaxInt)), "false"},
		{api.Atom{Kind: api.Div, D: n(3, 0), T: api.Term{Parts: []api.Part{{Var: 0, C: n(1, 0)}, {Var: 9, C: n(3, 0, 0)}}, K: api.Int{Neg: true}}}, "3 divides x"},
	} {
		form, e := atom.Norm(l.x)
		if e != api.OK {
			t.Fatalf("Norm(%s): %v", tellAtom(l.x), e)
		}
		wantAtom(t, l.x, "x", read(t, l.text))
		wantAtom(t, form, "x", read(t, l.text))
	}
}

// Errors in their order: ErrArg of the names, Norm's error, ErrFree.
func TestP112Refused(t *testing.T) {
	good := []string{"x", "y"}
	free := of1(2)
	for _, l := range []struct {
		x api.Atom
		e api.Errno
	}{
		{api.Atom{Kind: 5}, api.ErrArg}, {api.Atom{Kind: -1}, api.ErrArg}, {api.Atom{Kind: 99, T: free}, api.ErrArg}, {api.Atom{Kind: api.And, D: small(2), T: of1(0)}, api.ErrArg}, {api.Atom{Kind: math.MinInt}, api.ErrArg},
		{div(0, of1(0)), api.ErrZero}, {not(0, of1(0)), api.ErrZero}, {div(0, free), api.ErrZero}, {not(0, of1(-1)), api.ErrZero}, {api.Atom{Kind: api.Div, D: api.Int{Neg: true, Mag: []uint32{0, 0}}, T: free}, api.ErrZero}, {div(0, api.Term{}), api.ErrZero},
		{less(free), api.ErrFree}, {div(2, free), api.ErrFree}, {not(2, free), api.ErrFree}, {less(of1(-1)), api.ErrFree}, {div(3, of1(math.MinInt)), api.ErrFree}, {not(3, of1(math.MaxInt)), api.ErrFree}, {less(linear(1, 1, 1, -1)), api.ErrFree}, {div(3, linear(1, 1, 1, 1)), api.ErrFree},
	} {
		wantNoAtom(t, l.x, good, l.e)
		wantNoAtom(t, l.x, nil, l.e)
		for _, names := range badNames() {
			wantNoAtom(t, l.x, names, api.ErrArg)
		}
	}
	for _, x := range []api.Atom{{Kind: api.True}, {Kind: api.False}, less(of1(0)), div(2, of1(0)), less(linear(1))} {
		for _, names := range badNames() {
			wantNoAtom(t, x, names, api.ErrArg)
		}
	}
	wantNoAtom(t, less(of1(0)), nil, api.ErrFree)
	wantNoAtom(t, div(2, of1(1)), []string{"x"}, api.ErrFree)
	wantAtom(t, less(of1(1)), "x y", lt(num(0), v("y")))
	wantAtom(t, api.Atom{Kind: api.True}, "", of(api.TreeTrue))
}
