package periods_test

import (
	"testing"

	"riddle/api"
	"riddle/arena"
)

// y is 0 < v1: another variable than the one that is asked for.
func y() form { return less(0, p(1, 1)) }

// long is a divisibility whose period is too long.
func long() form { return div(5000, 1, 0) }

// bound are formulas with quantifiers: above all, deep below, which bind what is there or nothing; some have another
// variable free besides, and periods that are too long.
func bound() []form {
	f := x(1, 0)
	return of(some(0, f), all(0, f), some(1, f), all(1, f), some(5, f), some(0, never()), all(3, always()), and(f, some(1, y())), some(0, less(0, p(0, 1), p(1, 1))), or(y(), and(f, all(0, f))), or(f, and(y(), or(x(1, 5), some(2, y())))), some(0, all(1, y())), or(always(), all(4, f)), and(never(), some(4, f)), and(long(), some(0, f)), and(long(), y(), all(7, f)), some(0, long()))
}

// The errors of Of stand in the order of the promise: ErrArg, ErrNode, ErrQuant, ErrFree, ErrPeriod; with each of them there
// is no set.
func TestErrorsInOrder(t *testing.T) {
	a := arena.New(nil)
	quantified := layAll(a, bound())
	open := layAll(a, of(y(), less(0, p(0, 1), p(1, 1)), and(x(1, 0), y()), or(x(1, 0), and(div(2, 1, 0), y())), less(0, p(-1, 1)), less(0, p(least, 1)), less(0, p(most, 1)), atomOf(api.Div, n(3), n(0), []api.Part{p(0, 1), p(2, 1)}), atomOf(api.Not, n(3), n(0), []api.Part{p(2, 1)}), and(long(), y()), or(y(), and(div(64, 1, 0), div(81, 1, 0))), atomOf(api.Div, n(5000), n(0), []api.Part{p(0, 1), p(1, 1)}), or(always(), y()), and(never(), y())))
	tooLong := layAll(a, of(long(), not(4097, 1, 0), and(div(64, 1, 0), div(81, 1, 0)), or(x(1, 0), long())))
	for _, over := range []api.Errno{api.OK, api.ErrNodes} {
		if over != api.OK {
			// Nothing is counted, so that this changes nothing.
			a.Meter().Spend(api.MaxNodes)
		}
		for _, v := range []int{0, 3, -7, least, most} {
			for _, id := range []int{0, 1, 2, -1, a.Len(), most, least, quantified[0], open[0], tooLong[0]} {
				refuses(t, nil, id, v, api.ErrArg)
			}
			for _, id := range []int{-1, -2, least, a.Len(), a.Len() + 1, 2002, most} {
				refuses(t, a, id, v, api.ErrNode)
			}
			for _, id := range quantified {
				refuses(t, a, id, v, api.ErrQuant)
			}
			for _, id := range open {
				if free := a.Free(id); v == 0 || len(free) > 1 || free[0] != v {
					refuses(t, a, id, v, api.ErrFree)
				}
			}
		}
		for _, id := range tooLong {
			refuses(t, a, id, 0, api.ErrPeriod)
			refuses(t, a, id, 1, api.ErrFree)
		}
	}
}

// What is let go is no node any more; what is left of its kids is one.
func TestReleased(t *testing.T) {
	a := arena.New(nil)
	id := and(x(1, 0), div(2, 1, 0))(a)
	kept, e := setOf(t, a, id, 0)
	if e != api.OK {
		t.Fatal(e)
	}
	was := tellSet(kept)
	a.Release(id)
	refuses(t, a, id, 0, api.ErrNode)
	again, e := setOf(t, a, id-1, 0)
	if e != api.OK {
		t.Fatal(e)
	}
	alike(t, "a kid", again, class(2, 0))
	// What is laid there then is another one; the set that was answered stays.
	if other := or(x(1, 0), div(2, 1, 0))(a); other != id {
		t.Fatalf("%d, want %d", other, id)
	}
	again, e = setOf(t, a, id, 0)
	if e != api.OK {
		t.Fatal(e)
	}
	alike(t, "another one", again, join(above(0), class(2, 0)))
	if tellSet(kept) != was {
		t.Error("the set has changed")
	}
}

// A meter that is over, of whatever bound, changes nothing: nothing is made.
func TestTheMeterIsOver(t *testing.T) {
	for _, over := range []api.Errno{api.ErrNodes, api.ErrLimbs} {
		a := arena.New(meterOf(t, 5, 1))
		id := and(x(1, 0), or(x(-1, 9), div(2, 1, 0)))(a)
		if over == api.ErrLimbs {
			a.Atom(api.Atom{Kind: api.Less, T: api.Term{Parts: []api.Part{p(0, 1)}, K: wide(2)}})
		} else {
			a.Meter().Spend(1)
		}
		if a.Meter().Over() != over || a.Meter().Spent() != 5 {
			t.Fatalf("%d spent, %v", a.Meter().Spent(), a.Meter().Over())
		}
		s, e := setOf(t, a, id, 0)
		if e != api.OK {
			t.Fatal(e)
		}
		alike(t, "with a meter that is over", s, meet(above(0), join(upTo(8), class(2, 0))))
		refuses(t, a, id, 1, api.ErrFree)
	}
}

// ErrArg comes ahead of ErrPeriod, on either side.
func TestErrorsOfMeetAndJoin(t *testing.T) {
	refusesBoth(t, nil, class(4096, 1), api.ErrArg)
	refusesBoth(t, nil, nil, api.ErrArg)
	refusesBoth(t, class(3, 0), class(4096, 1), api.ErrPeriod)
	// What is refused has changed nothing: both are as they were.
	s, o := join(class(3, 0), one(4)), class(4096, 1)
	was, wasO := tellSet(s), tellSet(o)
	refusesBoth(t, s, o, api.ErrPeriod)
	refusesBoth(t, s, nil, api.ErrArg)
	if tellSet(s) != was || tellSet(o) != wasO {
		t.Error("what was refused has changed a set")
	}
}
