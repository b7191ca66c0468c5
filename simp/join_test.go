package simp_test

import (
	"slices"
	"testing"

	"riddle/api"
	"riddle/arena"
)

// orders are all orders of so many things, the first one as they stand.
func orders(many int) [][]int {
	if many == 0 {
		return [][]int{nil}
	}
	var l [][]int
	for _, order := range orders(many - 1) {
		for at := len(order); at >= 0; at-- {
			l = append(l, slices.Insert(slices.Clone(order), at, many-1))
		}
	}
	return l
}

func inOrder[T any](l []T, order []int) []T {
	var out []T
	for _, at := range order {
		out = append(out, l[at])
	}
	return out
}

// A row is what is joined, and what is to come of it by And and by Or.
type row struct {
	forms   []form
	and, or form
}

func of(forms ...form) []form { return forms }

// joins fails unless And and Or of a row come to what they should, in whichever order the formulas were laid, and in
// whichever order, and however often, their numbers are handed in; and unless nothing is made but that.
func (r row) joins(t *testing.T, at int) {
	t.Helper()
	for _, name := range []string{"And", "Or"} {
		want := r.and
		if name == "Or" {
			want = r.or
		}
		for _, order := range orders(len(r.forms)) {
			a := arena.New(nil)
			ids := layAll(a, inOrder(r.forms, order))
			comes(t, at, a, call{name, ids}, want)
			for _, other := range orders(len(ids)) {
				given := inOrder(ids, other)
				comes(t, at, a, call{name, given}, want)
				comes(t, at, a, call{name, append(given, given...)}, want)
			}
		}
	}
}

// comes fails unless a call is answered by the node of a formula, and unless it makes nothing but that node.
func comes(t *testing.T, at int, a *arena.Arena, c call, want form) {
	t.Helper()
	was, spent := a.Len(), a.Meter().Spent()
	got, e := c.do(a)
	made := a.Len() - was
	if e != api.OK || made > 1 || made == 1 && got != was || a.Meter().Spent() != spent+made {
		t.Fatalf("row %d, %s: %d, %v, %d made, %d counted, in\n%s", at, c, got, e, made, a.Meter().Spent()-spent, tellArena(a))
	}
	if id := want(a); id != got || a.Len() != was+made {
		t.Fatalf("row %d, %s: %d, want %d, in\n%s", at, c, got, id, tellArena(a))
	}
}

func joinAll(t *testing.T, rows []row) {
	t.Helper()
	for at, r := range rows {
		r.joins(t, at)
	}
}

// The chapter's examples.
func TestExamples(t *testing.T) {
	a, b, c := x(1, 0), x(1, -3), x(-1, 2)
	e, f := div(2, 0, p(0, 1)), not(2, 0, p(0, 1))
	joinAll(t, []row{
		{of(a, b), b, a}, {of(b, c), never(), or(b, c)}, {of(a, c), and(a, c), always()},
		{of(e, f), never(), always()}, {of(e, always()), e, always()}, {of(e, never()), never(), e}, {nil, always(), never()},
		{of(e, or(e, c)), e, or(e, c)}, {of(e, and(e, c)), and(e, c), e}, {of(and(a, e), b), and(b, e), or(and(a, e), b)},
	})
}

// Of no formula, of one of each kind, of the same one several times (joins hands each in twice, too).
func TestP91P92OfNoneAndOfOne(t *testing.T) {
	a, b := x(1, 0), y(1, 0)
	joinAll(t, []row{
		{nil, always(), never()}, {of(), always(), never()},
		{of(never()), never(), never()}, {of(always()), always(), always()}, {of(never(), never()), never(), never()}, {of(always(), always()), always(), always()},
		{of(a), a, a}, {of(a, a, a), a, a}, {of(div(3, 1, p(0, 1))), div(3, 1, p(0, 1)), div(3, 1, p(0, 1))}, {of(not(3, 1, p(0, 1))), not(3, 1, p(0, 1)), not(3, 1, p(0, 1))},
		{of(and(a, b)), and(a, b), and(a, b)}, {of(or(a, b)), or(a, b), or(a, b)}, {of(and(a, b), and(a, b)), and(a, b), and(a, b)}, {of(or(a, b), or(a, b)), or(a, b), or(a, b)},
		{of(some(0, a)), some(0, a), some(0, a)}, {of(all(0, a)), all(0, a), all(0, a)}, {of(some(0, a), some(0, a)), some(0, a), some(0, a)},
		{of(a, b), and(a, b), or(a, b)}, {of(a, b, a), and(a, b), or(a, b)}, {of(a, b, y(-1, -4), div(2, 0, p(0, 1))), never(), or(a, b, y(-1, -4), div(2, 0, p(0, 1)))},
	})
}

// An And within an And within an And is spread, all that is in it; so is an Or for Or.
func TestP91P92Spread(t *testing.T) {
	a, b, c, e := x(1, 0), y(1, 0), less(0, p(2, 1)), div(2, 0, p(0, 1))
	f := some(0, a)
	joinAll(t, []row{
		{of(and(a, and(b, and(c, e)))), and(a, b, c, e), and(a, and(b, and(c, e)))},
		{of(or(a, or(b, or(c, e)))), or(a, or(b, or(c, e))), or(a, b, c, e)},
		{of(and(a, b), and(c, e)), and(a, b, c, e), or(and(a, b), and(c, e))},
		{of(or(a, b), or(c, e)), and(or(a, b), or(c, e)), or(a, b, c, e)},
		{of(and(a, b), b, and(and(a, b), e)), and(a, b, e), b},
		{of(or(a, b), b, or(or(a, b), e)), b, or(a, b, e)},
		// What is below a quantifier or below a node of the other kind stays as it is.
		{of(some(1, and(a, and(b, c))), e), and(some(1, and(a, and(b, c))), e), or(some(1, and(a, and(b, c))), e)},
		{of(all(1, or(a, or(b, c))), e), and(all(1, or(a, or(b, c))), e), or(all(1, or(a, or(b, c))), e)},
		{of(and(or(a, and(b, c)), e)), and(or(a, and(b, c)), e), and(or(a, and(b, c)), e)},
		{of(or(and(a, or(b, c)), e)), or(and(a, or(b, c)), e), or(and(a, or(b, c)), e)},
		{of(and(f, and(a, f)), b), and(f, a, b), or(and(f, and(a, f)), b)},
		{of(or(f, or(a, f)), b), and(or(f, or(a, f)), b), or(f, a, b)},
	})
}

// True is left out of an And, False rules it; of an Or likewise, one for the other; within what is spread, too.
func TestP91P92Constants(t *testing.T) {
	a, b, e := x(1, 0), y(1, 0), div(2, 0, p(0, 1))
	f, g := never(), always()
	joinAll(t, []row{
		{of(f, g), f, g}, {of(a, g), a, g}, {of(a, f), f, a}, {of(a, b, g), and(a, b), g}, {of(a, b, f), f, or(a, b)}, {of(a, f, g), f, g},
		{of(and(a, g), b), and(a, b), or(and(a, g), b)}, {of(or(a, f), b), and(or(a, f), b), or(a, b)},
		{of(and(a, f), b), f, or(and(a, f), b)}, {of(or(a, g), b), and(or(a, g), b), g},
		{of(and(g, and(g, and(a, g)))), a, and(g, and(g, and(a, g)))}, {of(or(f, or(f, or(a, f)))), or(f, or(f, or(a, f))), a},
		{of(and(f, g)), f, and(f, g)}, {of(or(f, g)), or(f, g), g},
		// A constant that is left out is none of the others, by which a kid is a reason.
		{of(or(g, a), e, g), and(or(g, a), e), g}, {of(and(f, a), e, f), f, or(and(f, a), e)},
		// False rules whatever else there is.
		{of(f, e, not(2, 0, p(0, 1))), f, g}, {of(x(1, 0), x(-1, 0), g), f, g},
		{of(some(0, f)), some(0, f), some(0, f)}, {of(some(0, f), all(0, g)), and(some(0, f), all(0, g)), or(some(0, f), all(0, g))},
	})
}

// Of the Less whose T have the same parts one stays: of And that with the least constant, of Or that with the greatest.
func TestP91P92SameParts(t *testing.T) {
	far, near := bigLess(widest(8), p(0, 1)), bigLess(opposite(widest(8)), p(0, 1))
	long, longer := less(3, p(-7, 2), p(0, -3), p(5, 1)), less(4, p(-7, 2), p(0, -3), p(5, 1))
	joinAll(t, []row{
		{of(x(1, 0), x(1, 1)), x(1, 0), x(1, 1)}, {of(x(1, 0), x(1, -1)), x(1, -1), x(1, 0)}, {of(x(1, -1), x(1, -2)), x(1, -2), x(1, -1)}, {of(x(-1, 5), x(-1, 7)), x(-1, 5), x(-1, 7)},
		{of(x(1, 3), x(1, -4), x(1, 0), x(1, 9)), x(1, -4), x(1, 9)}, {of(x(1, 3), x(1, 30), y(1, 2), y(1, -2)), and(x(1, 3), y(1, -2)), or(x(1, 30), y(1, 2))},
		{of(far, x(1, 0)), x(1, 0), far}, {of(near, x(1, 0)), near, x(1, 0)}, {of(near, far), near, far}, {of(bigLess(wide(2), p(0, 1)), x(1, top)), x(1, top), bigLess(wide(2), p(0, 1))},
		{of(long, longer), long, longer}, {of(longer, long, x(1, 0)), and(long, x(1, 0)), or(longer, x(1, 0))},
		// Within what is spread, too.
		{of(and(x(1, 0), y(1, 0)), x(1, -3)), and(x(1, -3), y(1, 0)), or(and(x(1, 0), y(1, 0)), x(1, -3))},
		{of(or(x(1, 0), y(1, 0)), x(1, 3)), and(or(x(1, 0), y(1, 0)), x(1, 3)), or(x(1, 3), y(1, 0))},
		{of(and(x(1, 0), and(x(1, 5), x(1, 7))), x(1, 6)), x(1, 0), or(and(x(1, 0), and(x(1, 5), x(1, 7))), x(1, 6))},
	})
}

// Less that differ in anything of their parts are not held against each other.
func TestP91P92OtherParts(t *testing.T) {
	pairs := [][2]form{
		{x(1, 0), y(1, 1)}, {less(0, p(0, 1), p(1, 1)), less(1, p(0, 1), p(1, 2))}, {less(0, p(0, 1), p(1, 1)), less(1, p(0, 1), p(2, 1))}, {less(0, p(0, 1), p(1, 1)), less(-1, p(0, 1))},
		{less(0, p(0, 1), p(1, 1)), less(9, p(0, 1), p(1, -1))}, {less(0, p(0, 1), p(1, 1)), less(9, p(0, -1), p(1, 1))}, {less(0, p(0, 1), p(1, 1)), less(-9, p(0, -1), p(1, 1))}, {less(0, p(0, 1), p(1, 1)), less(9, p(1, 1))},
		{less(0, p(0, 1), big(1, wide(2))), less(9, p(0, 1), p(1, 1))}, {less(0, p(0, 1), big(1, wide(2))), less(9, p(0, -1), big(1, wide(2)))}, {less(0, p(-1, 1)), less(9, p(1, 1))}, {less(0, p(-1, 1)), less(9, p(1, -1))},
		{less(0, p(0, 2), p(1, 3)), less(-9, p(0, -2), p(1, 3))}, {less(0, p(0, 2), p(1, 3)), less(-9, p(0, -2))}, {less(0, p(0, 2), p(1, 3), p(2, 4)), less(-9, p(0, -2), p(1, -3))}, {less(0, p(0, 2), p(1, 3)), less(-9, p(0, -3), p(1, -2))},
		{less(0, p(least, 1)), less(9, p(most, 1))}, {x(-1, 0), y(1, 0)}, {x(-1, 5), y(1, 5)},
		// A Less and a divisibility with the same term.
		{div(7, 1, p(0, 1)), x(1, 1)}, {not(7, 1, p(0, 1)), x(1, 1)}, {div(7, 1, p(0, 1)), x(-1, -5)},
	}
	var rows []row
	for _, pair := range pairs {
		rows = append(rows, row{of(pair[0], pair[1]), and(pair[0], pair[1]), or(pair[0], pair[1])})
	}
	joinAll(t, rows)
}

// Two Less with opposite parts: And is False, if the sum of their constants is below 2; Or is True, if it is above 0.
func TestP91P92OppositeParts(t *testing.T) {
	sides := []func(k int) [2]form{
		func(k int) [2]form { return [2]form{x(1, k), x(-1, 0)} },
		func(k int) [2]form { return [2]form{x(1, 0), x(-1, k)} },
		func(k int) [2]form { return [2]form{x(1, k+100), x(-1, -100)} },
		func(k int) [2]form { return [2]form{x(1, -1), x(-1, k+1)} },
		func(k int) [2]form {
			return [2]form{less(k+7, p(-3, 2), p(0, -3), p(1, 1)), less(-7, p(-3, -2), p(0, 3), p(1, -1))}
		},
		func(k int) [2]form {
			return [2]form{less(k, p(most, -5), p(least, 2)), less(0, p(most, 5), p(least, -2))}
		},
		func(k int) [2]form {
			return [2]form{less(k, p(0, 1), big(1, wide(8))), less(0, p(0, -1), big(1, opposite(wide(8))))}
		},
	}
	var rows []row
	for _, side := range sides {
		for k := -4; k <= 4; k++ {
			l := side(k)
			r := row{of(l[0], l[1]), and(l[0], l[1]), or(l[0], l[1])}
			if k < 2 {
				r.and = never()
			}
			if k > 0 {
				r.or = always()
			}
			rows = append(rows, r)
		}
	}
	// Sums that are as great as may be, and those that wrap round to nothing.
	huge := func(c int, k api.Int) form { return bigLess(k, p(0, c)) }
	rows = append(rows,
		row{of(huge(1, widest(8)), huge(-1, widest(8))), and(huge(1, widest(8)), huge(-1, widest(8))), always()},
		row{of(huge(1, opposite(widest(8))), huge(-1, opposite(widest(8)))), never(), or(huge(1, opposite(widest(8))), huge(-1, opposite(widest(8))))},
		row{of(huge(1, widest(8)), huge(-1, opposite(widest(8)))), never(), or(huge(1, widest(8)), huge(-1, opposite(widest(8))))},
		row{of(huge(1, widest(1)), huge(-1, n(1))), and(huge(1, widest(1)), huge(-1, n(1))), always()},
		row{of(huge(1, wide(2)), huge(-1, opposite(widest(1)))), never(), always()},
		row{of(huge(1, wide(2)), huge(-1, opposite(wide(2)))), never(), or(huge(1, wide(2)), huge(-1, opposite(wide(2))))},
	)
	joinAll(t, rows)
}

// A pair is found wherever it stands among many, and one that is left out by another one counts no more.
func TestP91P92PairsAmongMany(t *testing.T) {
	joinAll(t, []row{
		{of(y(1, 0), x(1, 0), div(2, 0, p(0, 1)), x(-1, 1)), never(), always()},
		{of(y(1, 0), x(1, 0), x(-1, 2), y(-1, 1)), never(), always()},
		{of(y(1, 5), x(1, 5), y(-1, 5), x(-1, 5)), and(y(1, 5), x(1, 5), y(-1, 5), x(-1, 5)), always()},
		{of(y(1, -5), x(1, -5), y(-1, 5), x(-1, 5)), never(), or(y(1, -5), x(1, -5), y(-1, 5), x(-1, 5))},
		// The pair is of those that stay: with the least constants for And, with the greatest for Or.
		{of(x(1, 9), x(1, 0), x(-1, 1)), never(), always()}, {of(x(1, -9), x(1, 0), x(-1, 0)), never(), or(x(1, 0), x(-1, 0))}, {of(x(1, 1), x(-1, 2), x(-1, 1)), and(x(1, 1), x(-1, 1)), always()},
		{of(x(1, -1), x(-1, 0), x(-1, 1)), never(), or(x(1, -1), x(-1, 1))}, {of(x(1, 4), x(1, 5), x(-1, 6), x(-1, 7)), and(x(1, 4), x(-1, 6)), always()},
		{of(x(1, -4), x(1, -5), x(-1, -6), x(-1, -7)), never(), or(x(1, -4), x(-1, -6))},
		// One of the two stands in what is spread.
		{of(and(x(1, 0), y(1, 0)), x(-1, 1)), never(), or(and(x(1, 0), y(1, 0)), x(-1, 1))}, {of(or(x(1, 0), y(1, 0)), x(-1, 1)), and(or(x(1, 0), y(1, 0)), x(-1, 1)), always()},
		{of(and(y(1, 0), and(x(1, 0), x(-1, 1)))), never(), and(y(1, 0), and(x(1, 0), x(-1, 1)))},
		// Both stand below another kind of node: there nothing is looked for.
		{of(or(x(1, 0), x(-1, 1)), y(1, 0)), and(or(x(1, 0), x(-1, 1)), y(1, 0)), always()}, {of(some(0, and(x(1, 0), x(-1, 1))), y(1, 0)), and(some(0, and(x(1, 0), x(-1, 1))), y(1, 0)), or(some(0, and(x(1, 0), x(-1, 1))), y(1, 0))},
		{of(some(0, x(1, 0)), some(0, x(-1, 0))), and(some(0, x(1, 0)), some(0, x(-1, 0))), or(some(0, x(1, 0)), some(0, x(-1, 0)))},
	})
}

// A Div and a Not of the same D and T; of the same D and another T, of another D, of one kind they are nothing special.
func TestP91P92Divisibilities(t *testing.T) {
	same := []row{
		{of(div(2, 0, p(0, 1)), not(2, 0, p(0, 1))), never(), always()}, {of(div(5, 3, p(-4, 2), p(7, 4)), not(5, 3, p(-4, 2), p(7, 4))), never(), always()},
		{of(div(6, 4, p(0, 2)), not(3, 2, p(0, 1))), never(), always()}, {of(div(3, 1, p(0, 1)), not(-3, -1, p(0, -1))), never(), always()},
		{of(div(4, 0, p(0, 1)), not(9, 0, p(0, 1)), not(4, 0, p(0, 1)), x(1, 0)), never(), always()}, {of(and(div(4, 0, p(0, 1)), x(1, 0)), not(4, 0, p(0, 1))), never(), or(and(div(4, 0, p(0, 1)), x(1, 0)), not(4, 0, p(0, 1)))},
		{of(or(div(4, 0, p(0, 1)), x(1, 0)), not(4, 0, p(0, 1))), and(or(div(4, 0, p(0, 1)), x(1, 0)), not(4, 0, p(0, 1))), always()},
		{of(div(2, 0, p(0, 1)), not(2, 1, p(0, 1)), not(3, 0, p(0, 1)), not(2, 0, p(1, 1))), and(div(2, 0, p(0, 1)), not(2, 1, p(0, 1)), not(3, 0, p(0, 1)), not(2, 0, p(1, 1))), or(div(2, 0, p(0, 1)), not(2, 1, p(0, 1)), not(3, 0, p(0, 1)), not(2, 0, p(1, 1)))},
	}
	wideDiv := func(kind int, d api.Int) form {
		return atomOf(api.Atom{Kind: kind, D: d, T: api.Term{Parts: []api.Part{p(0, 1)}}})
	}
	same = append(same, row{of(wideDiv(api.Div, widest(8)), wideDiv(api.Not, widest(8))), never(), always()})
	joinAll(t, same)
	var rows []row
	for _, pair := range [][2]form{
		{div(2, 0, p(0, 1)), div(2, 1, p(0, 1))}, {div(2, 0, p(0, 1)), not(2, 1, p(0, 1))}, {div(5, 2, p(0, 1)), not(5, 1, p(0, 1))}, {div(5, 2, p(0, 1)), not(5, 2, p(1, 1))},
		{div(5, 2, p(0, 1)), not(5, 2, p(0, 1), p(1, 1))}, {div(5, 2, p(0, 1), p(1, 3)), not(5, 2, p(0, 1), p(1, 2))}, {div(5, 2, p(0, 1)), not(7, 2, p(0, 1))}, {div(2, 0, p(0, 1)), not(4, 0, p(0, 1))},
		{div(2, 0, p(0, 1)), div(4, 0, p(0, 1))}, {not(2, 0, p(0, 1)), not(4, 0, p(0, 1))}, {not(2, 0, p(0, 1)), not(2, 1, p(0, 1))}, {wideDiv(api.Div, widest(8)), wideDiv(api.Not, wide(8))}, {wideDiv(api.Div, wide(2)), wideDiv(api.Not, wide(3))},
		{some(0, div(2, 0, p(0, 1))), some(0, not(2, 0, p(0, 1)))}, {div(2, 0, p(0, 1)), some(3, not(2, 0, p(0, 1)))}, {some(0, x(1, 0)), all(0, x(-1, 1))},
	} {
		rows = append(rows, row{of(pair[0], pair[1]), and(pair[0], pair[1]), or(pair[0], pair[1])})
	}
	joinAll(t, rows)
}

// Of And each Or goes that has one of the others among its kids; of Or each And.
func TestP91P92Absorbed(t *testing.T) {
	a, b, c, e := x(1, 0), y(1, 0), less(0, p(2, 1)), div(2, 0, p(0, 1))
	q := some(0, a)
	oo, aa := or(or(a, b), c), and(and(a, b), c)
	joinAll(t, []row{
		{of(a, or(a, b)), a, or(a, b)}, {of(a, and(a, b)), and(a, b), a}, {of(e, or(e, b)), e, or(e, b)}, {of(q, or(q, b)), q, or(q, b)}, {of(q, and(q, b)), and(q, b), q},
		{of(a, or(b, c)), and(a, or(b, c)), or(a, b, c)}, {of(a, and(b, c)), and(a, b, c), or(a, and(b, c))},
		{of(a, or(b, c, a), or(a, e), or(b, e)), and(a, or(b, e)), or(a, b, c, e)}, {of(a, and(b, c, a), and(a, e), and(b, e)), and(a, b, c, e), or(a, and(b, e))},
		// Two Or with a kid in common are no reason for one another; nor is one whose kids are all among those of the other.
		{of(or(a, b), or(a, c)), and(or(a, b), or(a, c)), or(a, b, c)}, {of(or(a, b), or(a, b, c)), and(or(a, b), or(a, b, c)), or(a, b, c)},
		{of(and(a, b), and(a, c)), and(a, b, c), or(and(a, b), and(a, c))}, {of(and(a, b), and(a, b, c)), and(a, b, c), or(and(a, b), and(a, b, c))},
		// An Or that is left out is the reason for another one.
		{of(or(a, b), oo), or(a, b), or(a, b, c)}, {of(a, or(a, b), oo), a, or(a, b, c)}, {of(b, e, or(a, b), oo), and(b, e), or(a, b, c, e)}, {of(a, oo), and(a, oo), or(a, b, c)},
		{of(and(a, b), aa), and(a, b, c), and(a, b)}, {of(a, and(a, b), aa), and(a, b, c), a}, {of(b, e, and(a, b), aa), and(a, b, c, e), or(b, e)}, {of(a, aa), and(a, b, c), or(a, aa)},
		// The reason comes out of what is spread; an And among the kids of an Or is no longer there then.
		{of(and(a, e), or(a, b)), and(a, e), or(a, b)}, {of(or(a, e), and(a, b)), and(a, b), or(a, e)},
		{of(and(a, b), or(and(a, b), c)), and(a, b, or(and(a, b), c)), or(and(a, b), c)}, {of(or(a, b), and(or(a, b), c)), and(or(a, b), c), or(a, b, and(or(a, b), c))},
	})
}

// What an earlier step has left out is no reason in a later one.
func TestP91P92OneStepBehindTheOther(t *testing.T) {
	a, b, c := x(1, 0), x(1, -3), y(1, 0)
	joinAll(t, []row{
		// Step 3 leaves the kid out of And, which was the reason; the other one is a reason still.
		{of(a, b, or(a, c)), and(b, or(a, c)), or(a, c)}, {of(a, b, or(b, c)), b, or(a, c)}, {of(a, b, and(b, c)), and(b, c), or(a, and(b, c))}, {of(a, b, and(a, c)), and(b, c), a},
		// Steps 4 and 5 come ahead of step 6, whatever it would leave out.
		{of(b, x(-1, 0), or(b, c)), never(), or(b, x(-1, 0), c)}, {of(div(2, 0, p(0, 1)), not(2, 0, p(0, 1)), or(c, div(2, 0, p(0, 1)))), never(), always()},
		{of(div(2, 0, p(0, 1)), not(2, 0, p(0, 1)), and(c, div(2, 0, p(0, 1)))), never(), always()},
		// Step 1 brings what steps 2 to 6 look at.
		{of(and(a, always()), and(b, c), or(c, div(2, 0, p(0, 1)))), and(b, c), or(and(a, always()), c, div(2, 0, p(0, 1)))},
		{of(or(a, never()), or(b, c), and(c, div(2, 0, p(0, 1)))), and(or(a, never()), c, div(2, 0, p(0, 1))), or(a, c)},
		// What is left is one: that one.
		{of(a, b, or(b, c), or(b, or(b, c))), b, or(a, c)}, {of(and(a, b), always()), b, always()}, {of(or(a, b), never()), never(), a},
	})
}

// Of many Less of two sides the right ones stay.
func TestP91P92ManyLess(t *testing.T) {
	a := arena.New(nil)
	var ids []int
	for v := range 30 {
		for k := range 30 {
			ids = append(ids, less((k*7+v)%30+20, p(v, 1), p(100+v, -2))(a), less((k*11+v)%30+40, p(v, -1), p(100+v, 2))(a))
		}
	}
	var lows, highs []form
	for v := range 30 {
		lows = append(lows, less(20, p(v, 1), p(100+v, -2)), less(40, p(v, -1), p(100+v, 2)))
		highs = append(highs, less(-21, p(v, 1), p(100+v, -2)), less(-11, p(v, -1), p(100+v, 2)))
	}
	comes(t, 0, a, call{"And", ids}, and(lows...))
	comes(t, 1, a, call{"Or", ids}, always())
	comes(t, 2, a, call{"Or", layAll(a, highs)}, or(highs...))
	comes(t, 3, a, call{"And", append(ids, less(-70, p(17, 1), p(117, -2))(a))}, never())
}
