package limit_test

import (
	"testing"

	"riddle/api"
	"riddle/arena"
	"riddle/limit"
)

// Where the variable is in no Div and no Not it is 1: whatever else is there.
func TestP143None(t *testing.T) {
	for at, f := range []form{
		never(), always(), x(1, 0), x(-1, 7), xy(4, 7, 0), less(3, p(0, 4), p(2, 7)), y(1, 0), div(6, 1, p(1, 1)), not(6, 5, p(1, 1)), div(35, 0, p(1, 5), p(2, 7)), and(x(1, 0), div(4, 1, p(1, 1))), or(xy(5, 1, 0), and(x(-1, 4), not(7, 1, p(2, 3)))), and(never(), div(4, 1, p(1, 1))),
		// What stands beside it in the arena doesn't count.
		behind(of(div(7, 0, p(0, 1)), and(not(5, 0, p(0, 1)), x(1, 0))), x(1, 0)), behind(of(div(7, 0, p(0, 1))), always()),
		// The part of it was so many times the D, and is gone by the atom's form; or all of it is.
		div(5, 1, p(0, 5), p(1, 1)), not(5, 1, p(0, -10), p(1, 1)), div(5, 1, p(0, 5)), not(1, 0, p(0, 1)),
	} {
		deltaIs(t, at, f, 0, n(1))
	}
	for _, v := range []int{-1, 2, most, least} {
		deltaIs(t, v, and(xy(5, 3, 1), div(7, 0, p(0, 3), p(1, 2)), not(9, 0, p(0, 1), p(1, 2))), v, n(1))
	}
}

// In one it is the D, whatever the coefficients and the constant are.
func TestP143One(t *testing.T) {
	for at, l := range []struct {
		f    form
		want int
	}{
		{div(2, 0, p(0, 1)), 2}, {not(2, 0, p(0, 1)), 2}, {div(7, 3, p(0, 1)), 7}, {not(7, 3, p(0, 1)), 7}, {div(7, 3, p(0, 4)), 7}, {div(-7, 3, p(0, -4)), 7}, {div(12, 3, p(0, 5), p(1, 4)), 12}, {not(12, 3, p(0, 5), p(1, 4)), 12}, {div(12, 1, p(0, 6), p(1, 1)), 12}, {div(9, 6, p(0, 3)), 3}, {div(12, 6, p(0, 9)), 4},
		{and(x(1, 0), div(7, 1, p(0, 1))), 7}, {or(not(7, 1, p(0, 1)), xy(4, 1, 0)), 7}, {and(never(), div(7, 1, p(0, 1))), 7}, {or(y(1, 0), and(x(-1, 3), or(z(1, 0), not(7, 1, p(0, 1))))), 7},
		// A Div, a Not without it doesn't matter.
		{and(div(7, 1, p(0, 1)), div(5, 1, p(1, 1))), 7}, {or(not(6, 1, p(0, 1)), not(4, 1, p(1, 1)), div(35, 1, p(1, 3), p(2, 1))), 6},
	} {
		deltaIs(t, at, l.f, 0, n(l.want))
	}
	deltaIs(t, 100, div(7, 0, p(least, 1), p(most, 6)), least, n(7))
	deltaIs(t, 101, not(7, 0, p(least, 1), p(most, 6)), most, n(7))
}

// In several it is the least common multiple: where they divide one another, have something in common, or nothing; one
// that hangs at several places counts once, as the same D of others does.
func TestP143Several(t *testing.T) {
	d := func(d int) form { return div(d, 1, p(0, 1)) }
	e := func(d int) form { return not(d, 1, p(0, 1)) }
	for at, l := range []struct {
		f    form
		want int
	}{
		{and(d(2), d(4)), 4}, {and(d(8), e(2), d(4)), 8}, {or(d(4), d(6)), 12}, {or(e(4), e(6)), 12}, {or(d(4), e(6)), 12}, {and(d(3), d(5), e(7)), 105}, {and(d(6), e(10), d(15)), 30}, {or(d(9), e(9)), 9}, {or(d(9), div(9, 2, p(0, 1)), not(9, 1, p(0, 2)), e(3)), 9},
		{or(d(9), and(e(6), or(d(4), y(1, 0)))), 36}, {and(or(d(6), e(4)), or(d(6), y(1, 0)), d(6)), 12}, {and(x(1, 0), x(-1, 30), d(5), xy(7, 1, 0), e(4)), 20},
		{and(d(6), div(35, 1, p(1, 1)), e(4), not(11, 1, p(1, 1), p(2, 3))), 12},
	} {
		deltaIs(t, at, l.f, 0, n(l.want))
	}
	f := and(div(4, 1, p(0, 1), p(1, 1)), not(6, 1, p(1, 1), p(2, 1)), div(5, 1, p(2, 1)))
	deltaIs(t, 100, f, 0, n(4))
	deltaIs(t, 101, f, 1, n(12))
	deltaIs(t, 102, f, 2, n(30))
}

// Great ones: Delta may have far more limbs than a node's number.
func TestP143GreatOnes(t *testing.T) {
	for l := 1; l <= api.MaxLimbs; l++ {
		deltaIs(t, l, bigDiv(widest(l), n(1), p(0, 1)), 0, widest(l))
		deltaIs(t, l, bigNot(opposite(widest(l)), n(1), p(0, 1)), 0, widest(l))
		deltaIs(t, l, and(bigDiv(widest(l), n(1), p(0, 1)), bigNot(widest(l), n(2), p(0, 1), p(1, 1)), bigDiv(widest(1), n(1), p(0, 1))), 0, widest(l))
	}
	deltaIs(t, 10, and(bigDiv(wide(2), n(1), p(0, 1)), div(3, 1, p(0, 1))), 0, limbs(0, 3))
	deltaIs(t, 11, or(bigNot(wide(2), n(1), p(0, 1)), div(6, 1, p(0, 1))), 0, limbs(0, 3))
	deltaIs(t, 12, and(bigDiv(wide(8), n(1), p(0, 1)), bigNot(limbs(0, 1<<31), n(1), p(0, 1))), 0, wide(8))
	// Powers of 2^32 have nothing in common with numbers that end with an odd limb.
	deltaIs(t, 13, and(bigDiv(wide(8), n(1), p(0, 1)), bigNot(limbs(7, 0, 0, 0, 0, 0, 0, 5), n(1), p(0, 1))), 0, limbs(0, 0, 0, 0, 0, 0, 0, 7, 0, 0, 0, 0, 0, 0, 5))
}

// The errors stand in the order of the promises: ErrArg, ErrNode, ErrQuant, and then Bounds' own ErrArg; none of them
// makes anything. A quantifier counts wherever it is, also one that binds the variable, or nothing.
func TestErrorsInOrder(t *testing.T) {
	a := arena.New(nil)
	f := xy(2, 3, 0)
	bound := layAll(a, of(some(0, f), all(0, f), some(1, f), all(1, f), some(5, f), some(0, never()), all(3, always()), and(f, some(1, f)), or(f, and(y(1, 0), all(0, y(1, 0)))), or(x(1, 0), and(y(1, 0), or(y(1, 5), some(2, y(1, 0))))), some(0, all(1, f)), and(f, div(3, 1, p(0, 1)), some(7, x(1, 0)))))
	for _, v := range []int{0, 1, 2, 7, -1, most, least} {
		for _, id := range []int{0, 1, 2, -1, a.Len(), most, least} {
			refuses(t, nil, id, v, api.ErrArg)
		}
		for _, id := range []int{-1, -2, least, a.Len(), a.Len() + 1, 2002, most} {
			refuses(t, a, id, v, api.ErrNode)
		}
		for _, id := range bound {
			refuses(t, a, id, v, api.ErrQuant)
		}
	}
	// What is let go is no node any more.
	last := a.Len() - 1
	a.Release(last)
	refuses(t, a, last, 0, api.ErrNode)
	// What stands above the formula, or beside it, is nothing to it.
	id := f(a)
	noBounds(t, a, id, 0, api.ErrArg)
	if got, e := limit.High(a, id, 0); got != 1 || e != api.OK {
		t.Errorf("below quantifiers: %d, %v", got, e)
	}
	if d, e := limit.Delta(a, id, 0); !isInt(d, n(1)) || e != api.OK {
		t.Errorf("below quantifiers: %s, %v", tellInt(d), e)
	}
	if lower, upper, e := limit.Bounds(a, id, 7); len(lower)+len(upper) > 0 || e != api.OK {
		t.Errorf("below quantifiers: %s, %s, %v", tellTerms(lower), tellTerms(upper), e)
	}
}
