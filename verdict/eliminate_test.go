package verdict_test

import (
	"strconv"
	"testing"

	"riddle/api"
	"riddle/syntax"
)

// The chapter's examples, and the document's.
func TestP211Examples(t *testing.T) {
	askAll(t, []row{
		{eliminate, "some x . 2 * x = y", "", "2 divides y; v1 2 2 low 1 3"},
		{eliminate, "some x . y < 2 * x and 2 * x < y + 2", "", "2 divides y + 1; v1 2 2 low 1 3"},
		{eliminate, "some x . x > y and x < z", "", "y + 1 < z; v2 1 1 low 1 2"},
		{eliminate, "all x . x < y", "", "false; v1 1 1 high 0 1"},
		{eliminate, "all x . x < y implies x < z", "", "y < z + 1; v2 1 1 low 1 2"},
		{eliminate, "all x . some y . 2 * y = x or 2 * y = x + 1", "", "true; v1 2 2 low 1 3; v1 2 2 low 1 3; v0 1 2 low 0 2"},
	})
}

// Formulas with free names and without, with quantifiers nested and side by side, of several names at once, and with none.
func TestP211Eliminate(t *testing.T) {
	askAll(t, []row{
		// None, or such as bind nothing: no steps.
		{eliminate, "true", "", "true"}, {eliminate, "false", "", "false"}, {eliminate, "x < 1", "", "x < 1"}, {eliminate, "x < 1 and x < 5", "", "x < 1"}, {eliminate, "not not 4 divides 2 * x", "", "2 divides x"}, {eliminate, "x = x", "", "true"}, {eliminate, "x != x or y < x", "", "y < x"},
		{eliminate, "some x . true", "", "true"}, {eliminate, "all x y z . y1 < 1", "", "y1 < 1"}, {eliminate, "some x . all x . y < 1", "", "y < 1"}, {eliminate, "some x . x = x", "", "true"},
		// One behind the other, side by side, within one another: the innermost first, its variable by its number.
		{eliminate, "some x . x < y", "", "true; v1 1 1 low 0 1"}, {eliminate, "all x . x < y", "", "false; v1 1 1 high 0 1"}, {eliminate, "some x y . x < y", "", "true; v1 1 1 high 0 1"}, {eliminate, "some x . all y . x < y", "", "false; v1 1 1 low 0 1"},
		{eliminate, "some x . x > a and x < b or all y . y < a", "", "a + 1 < b; v3 1 1 high 0 1; v2 1 1 low 1 2"}, {eliminate, "(some x . x > a and x < b) or all y . y < a", "", "a + 1 < b; v2 1 1 low 1 2; v3 1 1 high 0 1"}, {eliminate, "(some x . 2 * x = a) and some x . 3 * x = b", "", "2 divides a and 3 divides b; v2 2 2 low 1 3; v3 3 3 low 1 4"},
		{eliminate, "some x . x > a and some y . x < y and y < b", "", "a + 2 < b; v3 1 1 low 1 2; v2 1 1 low 1 2"}, {eliminate, "some x y . a < x and x < y and y < b", "", "a + 2 < b; v3 1 1 low 1 2; v2 1 1 low 1 2"}, {eliminate, "all x y . a < x and x < y implies b <= y", "", "b < a + 3; v3 1 1 low 1 2; v2 1 1 low 1 2"},
		{eliminate, "some x . 3 divides x and 2 divides x + 1", "", "true; v0 1 6 low 0 3"}, {eliminate, "some x . x < a and x < b and x > c", "", "c + 1 < a and c + 1 < b; v3 1 1 low 1 2"}, {eliminate, "some x . a < x and b < x and x < c", "", "a + 1 < c and b + 1 < c; v3 1 1 high 1 2"},
		// A name that comes again is another variable; free names come as they were, in their order.
		{eliminate, "some x x . x < y", "", "true; v2 1 1 low 0 1"}, {eliminate, "x < 5 and some x . 2 * x = y", "", "x < 5 and 2 divides y; v2 2 2 low 1 3"}, {eliminate, "some x . x = 2 * y and (some y . x = 3 * y)", "", "3 divides y; v2 3 3 low 1 4; v1 1 3 low 1 4"},
		{eliminate, "some v0 . b < v0 and v0 < a and v1 < v2 and X_9 < a1", "", "v1 < v2 and X_9 < a1 and b + 1 < a; v6 1 1 low 1 2"},
	})
}

// What comes is told with its steps or not at all: a tree may have as many trees as may be stored.
func TestP211TreeTooGreat(t *testing.T) {
	x := v("x")
	for _, l := range []struct {
		what string
		of   api.Tree
		size int
	}{
		{"2 to 1499", or(append(divisors(2, 1499, x), lt(x, v("y")))...), 3000}, {"2 to 1499, and one of four", or(append(divisors(2, 1499, x), divides(n(2), add(x, num(n(1)))))...), 0}, {"2 to 1500", or(divisors(2, 1500, x)...), 2999}, {"2 to 1501", or(divisors(2, 1501, x)...), 0},
	} {
		got := of(eliminate, l.of).ask()
		if l.size > 0 && (got.e != api.OK || syntax.Size(got.tree) != l.size || len(got.steps) > 0) || l.size == 0 && got.String() != "error 222" {
			t.Errorf("%s: %d trees, %s", l.what, syntax.Size(got.tree), short(got.String()))
		}
	}
	// The steps ahead are not told then; and what is not raised is not refused.
	half := node(api.TreeEq, api.Tree{Kind: api.TreeMul, N: n(2), Kids: []api.Tree{v("y")}}, add(x, num(n(1))))
	great := or(append(divisors(3, 1502, x), some(half, "y"))...)
	of(eliminate, great).refuses(t, api.ErrStore)
	of(eliminate, or(great, some(lt(v("y"), v("z")), "y"))).wants(t, "true; v2 2 2 low 1 3; v3 1 1 low 0 1")
	of(eval, great, small(5)).wants(t, "true")
	of(eval, great, small(2)).wants(t, "false")
	if got := of(cost, great).ask(); got.e != api.OK || got.count < 1500 {
		t.Errorf("Cost: %s", got)
	}
}

// What comes may be deeper than a formula that is handed in.
func TestP211Deep(t *testing.T) {
	sum := func(from, many int) api.Tree {
		var row []api.Tree
		for i := range many {
			row = append(row, v("a"+strconv.Itoa(from+i)))
		}
		for len(row) > 1 {
			row = append(row[2:], add(row[0], row[1]))
		}
		return row[0]
	}
	got := of(eliminate, some(and(lt(sum(100, 64), v("x")), lt(v("x"), sum(200, 8))), "x")).ask()
	if got.e != api.OK || syntax.Size(got.tree) != 1+2*64+2*8 || syntax.Check(got.tree) != api.ErrDepth || tellSteps(got.steps) != "; v72 1 1 low 1 2" {
		t.Errorf("%s", short(got.String()))
	}
	of(cost, got.tree).refuses(t, api.ErrDepth)
}

// Cost counts all nodes that are made, those of lowering too, and all points.
func TestP211Cost(t *testing.T) {
	askAll(t, []row{
		{cost, "true", "", "0"}, {cost, "x = x", "", "0"}, {cost, "x < 1", "", "1"}, {cost, "x < 1 and x < 5", "", "2"}, {cost, "x < 1 or x < 1", "", "1"}, {cost, "x < 1 and y < 1", "", "3"}, {cost, "some x . true", "", "1"}, {cost, "all x y z . true", "", "3"},
		// 0 < x - y, Some; far above it is true.
		{cost, "some x . x > y", "", "3"}, {cost, "some x . x > 5", "", "3"},
		// All of 0 < -x + y; its opposite 0 < x - y + 1, and a point; the opposite of 1 is there.
		{cost, "all x . x < y", "", "4"},
		// Two atoms, And, Some; 0 < x - y, 0 < -x + y + 2, And, 2 divides x, And; a point far below; 2 divides y + 1 and y behind the bound, and their points.
		{cost, "some x . y < 2 * x and 2 * x < y + 2", "", "14"},
		// 5 divides x + 1, Some; the fourth of five points.
		{cost, "some x . 5 divides x + 1", "", "6"},
		// 0 < -x + 1 and 0 < x, which can't both be.
		{cost, "2 * x = 1", "", "2"}, {cost, "some x . 2 * x = 1", "", "3"},
	})
}
