package witness_test

import (
	"testing"

	"riddle/api"
	"riddle/arena"
)

// A look is a formula of v0, what One is to answer for it, and by how many points.
type look struct {
	of     form
	want   answer
	points int
}

func at(k, points int, of form) look { return bigAt(n(k), points, of) }

func bigAt(k api.Int, points int, of form) look {
	return look{of, answer{bigs(k), true, api.OK}, points}
}

// nowhere is a formula that holds at no point.
func nowhere(points int, of form) look { return look{of, oneOf(0, 0).nothing(api.OK), points} }

// looks fails unless One answers what it should, by as many points as it should, as often as it is asked, and makes
// nothing; and unless with fewer points left in the meter it stops where the meter does: ahead of looking at the point that
// can't be spent any more.
func (l look) looks(t *testing.T, row int) {
	t.Helper()
	a := arena.New(nil)
	q := oneOf(l.of(a), 0)
	was, spent := tellNodes(a, a.Len()), a.Meter().Spent()
	for often := range 2 {
		got := q.ask(a)
		if got.String() != l.want.String() || tellNodes(a, a.Len()) != was || a.Meter().Spent() != spent+(often+1)*l.points || a.Meter().Over() != api.OK {
			t.Fatalf("row %d: %s, want %s by %d points, in\n%s\nwas\n%s%d", row, got, l.want, l.points, tellArena(a), was, spent)
		}
	}
	for left := max(0, 1-spent); left <= l.points+1; left++ {
		a := arena.New(meterOf(t, spent+left, 8))
		q := oneOf(l.of(a), 0)
		want, over, used := l.want, api.OK, l.points
		if left < l.points {
			want, over, used = q.nothing(api.ErrNodes), api.ErrNodes, left
		}
		got := q.ask(a)
		if got.String() != want.String() || tellNodes(a, a.Len()) != was || a.Meter().Spent() != spent+used || a.Meter().Over() != over {
			t.Fatalf("row %d with %d left: %s, want %s, in\n%s", row, left, got, want, tellArena(a))
		}
	}
}

func lookAll(t *testing.T, rows []look) {
	t.Helper()
	for row, l := range rows {
		l.looks(t, row)
	}
}

// The chapter's examples, with how much was spent.
func TestP201Examples(t *testing.T) {
	lookAll(t, []look{
		at(8, 2, x(1, -7)), at(-8, 1, x(-1, -7)), at(-1, 2, div(3, 1, p(0, 1))), at(0, 1, always()), nowhere(1, never()),
		at(2, 2, and(x(2, -3), x(-2, 5))),
	})
	a := arena.New(nil)
	oneOf(xy(1, -1, 0)(a), 0).refuses(t, a, api.ErrFree)
}

// A formula without v: the only point is 0, whichever variable it is.
func TestP201WithoutV(t *testing.T) {
	lookAll(t, []look{
		at(0, 1, behind(of(x(1, -7)), always())), nowhere(1, behind(of(x(1, -7)), never())), at(0, 1, or(never(), always())), nowhere(1, and(never(), always())),
		at(0, 1, and(always(), or(never(), always()))), nowhere(1, or(never(), and(never(), always()))), at(0, 1, x(0, 1)), nowhere(1, x(0, 0)), at(0, 1, divides(1, 4)), at(0, 1, div(5, 10, p(0, 5))), nowhere(1, div(5, 11, p(0, 5))),
		at(0, 1, less(1, p(0, 3), p(0, -3))),
	})
	a := arena.New(nil)
	both := or(never(), always())(a)
	for _, v := range []int{0, 1, -1, most, least} {
		for _, id := range []int{1, both} {
			if got := oneOf(id, v).ask(a); got.String() != (answer{numbers(0), true, api.OK}).String() {
				t.Errorf("of %d and v%d: %s", id, v, got)
			}
		}
	}
}

// A Less with v above 0 and below 0, with a coefficient of 1 and greater, with constants that it divides and doesn't, below
// 0 and above.
func TestP201Less(t *testing.T) {
	lookAll(t, []look{
		at(1, 2, x(1, 0)), at(0, 2, x(1, 1)), at(2, 2, x(1, -1)), at(-8, 2, x(1, 9)), at(10, 2, x(1, -9)),
		at(-1, 1, x(-1, 0)), at(0, 1, x(-1, 1)), at(-2, 1, x(-1, -1)), at(8, 1, x(-1, 9)), at(-10, 1, x(-1, -9)),
		// 2 v above 3, 4, 5, and above -3, -4, -5.
		at(2, 2, x(2, -3)), at(3, 2, x(2, -4)), at(3, 2, x(2, -5)), at(-1, 2, x(2, 3)), at(-1, 2, x(2, 4)), at(-2, 2, x(2, 5)), at(1, 2, x(2, -1)), at(0, 2, x(2, 1)), at(1, 2, x(2, 0)),
		// 2 v below 3, 4, 5, and below -3, -4, -5.
		at(1, 1, x(-2, 3)), at(1, 1, x(-2, 4)), at(2, 1, x(-2, 5)), at(-2, 1, x(-2, -3)), at(-3, 1, x(-2, -4)), at(-3, 1, x(-2, -5)), at(0, 1, x(-2, 1)), at(-1, 1, x(-2, -1)), at(-1, 1, x(-2, 0)),
		at(3, 2, x(7, -20)), at(4, 2, x(7, -21)), at(4, 2, x(7, -22)), at(-2, 2, x(7, 20)), at(-2, 2, x(7, 21)), at(-3, 2, x(7, 22)),
		at(2, 1, x(-7, 20)), at(2, 1, x(-7, 21)), at(3, 1, x(-7, 22)), at(-3, 1, x(-7, -20)), at(-4, 1, x(-7, -21)), at(-4, 1, x(-7, -22)),
	})
}

// Several marks, in whichever order the nodes were made, some of them alike: first the least one, then behind each low one,
// rising.
func TestP201Marks(t *testing.T) {
	lookAll(t, []look{
		at(6, 3, and(above(5), above(2), upTo(9))), at(6, 3, and(above(2), above(5), upTo(9))), at(6, 3, behind(of(upTo(9), above(5)), and(above(2), above(5), upTo(9)))),
		at(3, 2, or(above(5), above(2))), at(3, 2, or(above(2), above(5))), at(9, 4, and(above(8), above(2), above(5))), at(9, 4, and(above(2), above(5), above(8))), at(9, 5, and(above(8), above(-3), above(5), above(-9))),
		// The least mark is not a low one.
		at(1, 1, or(above(5), upTo(1))), at(6, 2, and(above(5), or(above(5), upTo(1)))), nowhere(2, and(above(5), upTo(1))), nowhere(2, and(above(5), upTo(5))), at(6, 2, and(above(5), upTo(6))), nowhere(3, and(above(5), upTo(6), above(7))),
		at(-4, 1, and(upTo(5), upTo(-4), upTo(0))), at(-4, 1, or(upTo(5), upTo(-4), upTo(0))), at(-4, 1, or(and(above(0), upTo(3)), upTo(-4))),
		// A low mark and another one alike, and raw atoms that say the same.
		at(8, 2, or(above(7), and(upTo(7), above(7)))), nowhere(2, and(upTo(7), above(7))), at(7, 1, or(upTo(7), above(7))), at(8, 2, and(x(1, -7), x(2, -14), x(2, -15), x(5, -39))), at(8, 3, and(x(2, -14), x(3, -20), x(2, -15), upTo(9))),
		// Behind each low mark there are as many points as the period is long.
		at(9, 7, and(above(8), above(2), doesnt(3, 1), doesnt(3, 2))), at(8, 7, and(above(5), divides(4, 0), upTo(20))), at(4, 4, and(above(2), or(above(6), divides(2, 0)))), at(3, 7, and(above(2), or(above(6), divides(2, 1)), divides(3, 0))),
		nowhere(9, and(above(5), above(2), upTo(7), divides(3, 1), upTo(7))), at(-7, 12, and(above(-12), upTo(-4), divides(7, 0))), nowhere(14, and(above(-12), upTo(-8), divides(7, 0))), nowhere(14, and(above(-7), upTo(-1), divides(7, 0))),
	})
}

// Div and Not: D is of all of them; what D and the coefficient have in common is none of the period.
func TestP201Divisibilities(t *testing.T) {
	lookAll(t, []look{
		at(0, 1, divides(2, 0)), at(-1, 2, divides(2, 1)), at(0, 1, divides(7, 0)), at(-1, 2, divides(7, 1)), at(-6, 7, divides(7, 6)), at(0, 1, doesnt(2, 1)), at(-1, 2, doesnt(2, 0)), at(-1, 2, doesnt(9, 0)), at(0, 1, doesnt(9, 8)),
		// With a coefficient that has no divisor in common, and with one that has.
		at(-2, 3, div(5, -1, p(0, 2))), at(-3, 4, div(5, 1, p(0, 2))), at(-1, 2, div(4, 2, p(0, 6))), at(-1, 2, div(6, 4, p(0, 4))), at(-1, 2, not(6, 0, p(0, 4))), at(0, 1, not(4, 2, p(0, 6))), nowhere(1, div(6, 3, p(0, 4))), at(0, 1, not(6, 3, p(0, 4))), at(-2, 3, div(12, 8, p(0, 4))), at(-2, 3, div(-12, 8, p(0, -8))),
		nowhere(3, and(div(6, 4, p(0, 4)), div(9, 3, p(0, 3)), div(3, 0, p(0, 1)))), nowhere(2, and(div(6, 3, p(0, 3)), div(4, 0, p(0, 2)))),
		// Several: the least common multiple of all.
		at(-9, 10, and(divides(4, 1), divides(3, 0), divides(6, 3))), nowhere(4, and(divides(2, 0), divides(4, 1))), nowhere(12, and(divides(4, 0), divides(6, 1))), at(-2, 3, and(divides(4, 2), divides(6, 2))), at(-4, 5, and(doesnt(2, 1), doesnt(3, 0), divides(5, -1))),
		nowhere(12, and(divides(3, 0), not(4, 0, p(0, 1)), not(4, 1, p(0, 1)), not(4, 2, p(0, 1)), not(4, 3, p(0, 1)))), nowhere(30, and(divides(2, 0), divides(3, 0), divides(5, 0), doesnt(5, 0))), nowhere(36, and(divides(4, 0), divides(9, 0), doesnt(6, 0))), at(-1, 2, or(divides(4, 1), doesnt(6, 0))),
		// At the first point, at the last one, at none, below a mark and behind several.
		at(5, 1, and(upTo(5), divides(5, 0))), at(1, 5, and(upTo(5), divides(5, -1))), at(3, 6, and(above(0), divides(3, 0))), nowhere(6, and(above(0), divides(3, 0), upTo(2))), at(12, 9, and(above(4), above(9), divides(3, 0))),
	})
}

// At the first point behind a low mark, at each one up to the last one of all, and at none.
func TestP201EachPoint(t *testing.T) {
	for d := 2; d <= 12; d++ {
		for r := 1; r <= d; r++ {
			lookAll(t, []look{
				at(40+r, 2*d+r, and(above(40), above(4), divides(d, -40-r))), at(4+r, d+r, and(or(above(40), above(4)), divides(d, -4-r))), nowhere(3*d, and(above(40), above(4), divides(d, r), doesnt(d, r))),
				at(-10-r+1, r, and(upTo(-10), divides(d, 9+r))), at(-10-r+1, r, or(and(above(3), divides(d, 0)), and(upTo(-10), divides(d, 9+r)))),
			})
		}
	}
}

// Any variable, also the least and the greatest one.
func TestP201AnyVariable(t *testing.T) {
	for _, v := range []int{0, 1, 7, -1, most, least} {
		a := arena.New(nil)
		id := and(less(-7, p(v, 1)), div(5, 2, p(v, 1)))(a)
		if got := oneOf(id, v).ask(a); got.String() != (answer{numbers(8), true, api.OK}).String() || a.Meter().Spent() != 3+6 {
			t.Errorf("v%d: %s, %d spent", v, got, a.Meter().Spent())
		}
	}
}

// What stands beside the formula, or above it, is nothing to it: neither marks nor divisors nor variables nor quantifiers.
func TestP201Beside(t *testing.T) {
	others := of(above(-100), upTo(-90), divides(11, 3), y(1, 0), some(0, x(1, 0)), and(x(1, -7), above(90)), all(3, x(1, -7)), or(y(1, 0), x(1, -7)))
	lookAll(t, []look{at(8, 2, behind(others, x(1, -7))), at(-1, 2, behind(others, divides(3, 1))), at(0, 1, behind(others, always()))})
}

// An atom below several others is one atom; a formula may be nested, and need not be made simpler.
func TestP201Nested(t *testing.T) {
	f := or(and(above(3), divides(4, 0)), and(above(3), upTo(-5)))
	lookAll(t, []look{
		at(4, 5, f), at(4, 5, and(f, or(f, above(3)))), at(8, 11, and(f, or(above(3), f), above(5))), nowhere(8, and(f, and(upTo(-5), or(upTo(-5), f)))), at(-5, 1, or(f, and(upTo(-5), or(upTo(-5), f)))),
		at(0, 1, or(always(), divides(3, 1))), nowhere(3, and(never(), divides(3, 1))), at(5, 1, or(always(), above(5))), nowhere(2, and(never(), above(5))), nowhere(1, and(never(), upTo(5))),
	})
}

// Marks, constants and divisors of many limbs: the answer may have one limb more than any node's number.
func TestP201GreatNumbers(t *testing.T) {
	for l := 1; l <= api.MaxLimbs; l++ {
		k := widest(l, 0)
		lookAll(t, []look{
			bigAt(wide(l+1, 0), 2, bigLess(opposite(k), p(0, 1))), bigAt(opposite(wide(l+1, 0)), 1, bigLess(opposite(k), p(0, -1))), bigAt(widest(l, 1), 1, bigLess(k, p(0, -1))), bigAt(opposite(widest(l, 1)), 2, bigLess(k, p(0, 1))),
			bigAt(n(1), 2, less(0, big(0, k))), bigAt(n(2), 2, bigLess(opposite(k), big(0, k))), bigAt(n(1), 2, bigLess(opposite(widest(l, 1)), big(0, k))), bigAt(n(-1), 1, less(0, big(0, opposite(k)))), bigAt(n(-2), 1, bigLess(opposite(k), big(0, opposite(k)))),
			// 2^32 leaves 1 by 5 and by 3: so k leaves 0 by them.
			bigAt(wide(l+1, 4), 10, and(bigLess(opposite(k), p(0, 1)), divides(5, 0))), bigAt(widest(l, 2), 2, and(bigLess(k, p(0, -1)), divides(3, 2))), bigAt(opposite(wide(l+1, 1)), 2, and(bigLess(opposite(k), p(0, -1)), divides(3, 2))),
			// Long periods, of which few points are come to: 0, -1 .. from no mark on, and from a mark on.
			bigAt(n(-3), 4, bigDiv(k, n(3), p(0, 1))), bigAt(n(4), 4, and(bigDiv(k, n(-4), p(0, 1)), upTo(7))), bigAt(opposite(wide(l+1, 1)), 2, and(bigDiv(k, n(2), p(0, 1)), bigLess(opposite(k), p(0, -1)))),
		})
	}
	// Of a long period there are more points than a meter has: so many are spent, and no more.
	a := arena.New(nil)
	q := oneOf(and(bigDiv(widest(8, 0), n(1), p(0, 1)), above(3))(a), 0)
	if got := q.ask(a); got.String() != q.nothing(api.ErrNodes).String() || a.Meter().Spent() != api.MaxNodes || a.Len() != 5 {
		t.Errorf("%s, %d spent", got, a.Meter().Spent())
	}
}
