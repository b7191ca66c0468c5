package raise_test

import (
	"math"
	"strings"
	"testing"

	"riddle/api"
	"riddle/raise"
)

func wantTerm(t *testing.T, what api.Term, names string, want api.Tree) {
	t.Helper()
	got, e := raise.Term(what, strings.Fields(names))
	if e != api.OK || tellTree(got) != tellTree(want) {
		t.Errorf("Term(%s, %q): %s, %v, want %s", tellTerm(what), names, tellTree(got), e, tellTree(want))
	}
}

func wantNoTerm(t *testing.T, what api.Term, names []string, want api.Errno) {
	t.Helper()
	if got, e := raise.Term(what, names); e != want || !isZero(got) {
		t.Errorf("Term(%s, %q): %s, %v, want %v", tellTerm(what), names, tellTree(got), e, want)
	}
}

// The chapter's examples.
func TestTermExamples(t *testing.T) {
	for text, x := range map[string]api.Term{"2 * x - y + 3": linear(3, 2, -1), "-x": linear(0, -1), "-2 * x - 1": linear(-1, -2), "0": linear(0), "-5": linear(-5)} {
		wantTerm(t, x, "x y", termOf(t, text))
	}
	wantNoTerm(t, of1(2), []string{"x", "y"}, api.ErrFree)
	wantNoTerm(t, of1(-1), []string{"x", "y"}, api.ErrFree)
	wantNoTerm(t, of1(0), []string{"x", "x"}, api.ErrArg)
}

// Each tree by hand: no part of it is told by a text's reader.
func TestP111Pieces(t *testing.T) {
	x, y, z := v("x"), v("y"), v("z")
	for _, l := range []struct {
		t    api.Term
		want api.Tree
	}{
		// Without parts.
		{linear(0), num(0)}, {linear(1), num(1)}, {linear(7), num(7)}, {linear(-1), neg(num(1))}, {linear(-7), neg(num(7))},
		// One part.
		{linear(0, 1), x}, {linear(0, -1), neg(x)}, {linear(0, 2), mul(n(2), x)}, {linear(0, -2), neg(mul(n(2), x))}, {linear(0, 0, 1), y}, {linear(0, 0, 0, -3), neg(mul(n(3), z))},
		// The constant behind it.
		{linear(1, 1), add(x, num(1))}, {linear(-1, 1), sub(x, num(1))}, {linear(1, -1), add(neg(x), num(1))}, {linear(-1, -1), sub(neg(x), num(1))}, {linear(-5, 3), sub(mul(n(3), x), num(5))}, {linear(5, -3), add(neg(mul(n(3), x)), num(5))},
		// Several parts, which go to the left.
		{linear(0, 1, 1), add(x, y)}, {linear(0, 1, -1), sub(x, y)}, {linear(0, -1, 1), add(neg(x), y)}, {linear(0, -1, -1), sub(neg(x), y)}, {linear(0, 0, 1, -1), sub(y, z)},
		{linear(0, 2, 3), add(mul(n(2), x), mul(n(3), y))}, {linear(0, -2, -3), sub(neg(mul(n(2), x)), mul(n(3), y))}, {linear(0, 1, 1, 1), add(add(x, y), z)}, {linear(0, -1, -1, -1), sub(sub(neg(x), y), z)}, {linear(0, 1, -2, 3), add(sub(x, mul(n(2), y)), mul(n(3), z))},
		{linear(4, 1, -2, 3), add(add(sub(x, mul(n(2), y)), mul(n(3), z)), num(4))}, {linear(-4, -1, 0, 1), sub(add(neg(x), z), num(4))},
	} {
		wantTerm(t, l.t, "x y z", l.want)
		wantTerm(t, l.t, "x y z x1 y1", l.want)
	}
}

func TestP111GreatNumbers(t *testing.T) {
	x, y := v("x"), v("y")
	for _, limbs := range []int{1, 2, 8, 9, 300} {
		most, next := widest(limbs), n(append(make([]uint32, limbs), 1)...)
		parts := func(a, b api.Int) []api.Part { return []api.Part{{Var: 0, C: a}, {Var: 1, C: b}} }
		wantTerm(t, api.Term{K: most}, "", great(most))
		wantTerm(t, api.Term{K: below(next)}, "x", neg(great(next)))
		wantTerm(t, api.Term{Parts: parts(most, below(next)), K: below(most)}, "x y", sub(sub(mul(most, x), mul(next, y)), great(most)))
		wantTerm(t, api.Term{Parts: parts(below(next), most), K: next}, "x y", add(add(neg(mul(next, x)), mul(most, y)), great(next)))
	}
	// A limb of 1 alone doesn't make it 1.
	wantTerm(t, api.Term{Parts: []api.Part{{C: n(1, 1)}}}, "x", mul(n(1, 1), x))
	wantTerm(t, api.Term{Parts: []api.Part{{C: below(n(0, 1))}}}, "x", neg(mul(n(0, 1), x)))
}

// A term that doesn't stand as it should is taken for the one that it says.
func TestP111RawTerms(t *testing.T) {
	x, y := v("x"), v("y")
	nought := api.Int{Neg: true, Mag: []uint32{0, 0}}
	for _, l := range []struct {
		t    api.Term
		want api.Tree
	}{
		{api.Term{Parts: []api.Part{{Var: 1, C: small(-1)}, {Var: 0, C: small(2)}}, K: small(3)}, add(sub(mul(n(2), x), y), num(3))},
		{api.Term{Parts: []api.Part{{Var: 0, C: small(2)}, {Var: 0, C: small(-3)}}}, neg(x)},
		{api.Term{Parts: []api.Part{{Var: 0, C: small(2)}, {Var: 1, C: small(1)}, {Var: 0, C: small(-2)}}}, y},
		{api.Term{Parts: []api.Part{{Var: 0, C: small(2)}, {Var: 0, C: small(-2)}}, K: small(-4)}, neg(num(4))},
		{api.Term{Parts: []api.Part{{Var: 0}, {Var: 1, C: nought}}, K: nought}, num(0)}, {api.Term{K: n(0)}, num(0)}, {api.Term{K: api.Int{Neg: true}}, num(0)},
		{api.Term{Parts: []api.Part{{Var: 0, C: nought}, {Var: 1, C: n(1, 0, 0)}}, K: nought}, y},
		{api.Term{Parts: []api.Part{{Var: 0, C: below(n(1, 0))}}, K: n(5, 0)}, add(neg(x), num(5))},
		{api.Term{Parts: []api.Part{{Var: 0, C: n(6, 0)}}, K: below(n(5, 0, 0))}, sub(mul(n(6), x), num(5))},
	} {
		wantTerm(t, l.t, "x y", l.want)
	}
}

// ErrFree hangs on the variables that the term has, as it should stand; ErrArg stands ahead of it.
func TestP111Refused(t *testing.T) {
	xy := []string{"x", "y"}
	for _, x := range []api.Term{of1(2), of1(-1), of1(math.MaxInt), of1(math.MinInt), linear(1, 1, 1, 1), {Parts: []api.Part{{Var: 0, C: small(1)}, {Var: -1, C: small(2)}}}, {Parts: []api.Part{{Var: 2, C: small(1)}, {Var: 2, C: small(1)}}}} {
		wantNoTerm(t, x, xy, api.ErrFree)
		wantNoTerm(t, x, nil, api.ErrFree)
		for _, names := range badNames() {
			wantNoTerm(t, x, names, api.ErrArg)
		}
	}
	wantNoTerm(t, of1(0), nil, api.ErrFree)
	wantNoTerm(t, of1(0), []string{}, api.ErrFree)
	wantNoTerm(t, of1(1), []string{"x"}, api.ErrFree)
	for _, x := range []api.Term{{}, linear(5), of1(0), linear(1, 2, -3)} {
		for _, names := range badNames() {
			wantNoTerm(t, x, names, api.ErrArg)
		}
	}
	gone := api.Term{Parts: []api.Part{{Var: 2}, {Var: -1, C: small(3)}, {Var: 9, C: n(0, 0)}, {Var: -1, C: small(-3)}}, K: small(1)}
	wantTerm(t, gone, "x y", num(1))
	wantTerm(t, gone, "", num(1))
	wantTerm(t, of1(1), "x y", v("y"))
	// Names that are almost alike, the longest one, words in other letters.
	long := strings.Repeat("n", 24)
	wantTerm(t, linear(0, 1, 1, 1, 1, 1), "x X x_ AND "+long, add(add(add(add(v("x"), v("X")), v("x_")), v("AND")), v(long)))
}
