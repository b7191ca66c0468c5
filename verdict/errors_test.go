package verdict_test

import (
	"testing"

	"riddle/api"
	"riddle/syntax"
)

// A tree that may not be is refused by every call, by syntax.Check's error and ahead of all else: whatever values come with
// it, whatever free names it has, whatever its run would come to.
func TestP21WrongTrees(t *testing.T) {
	for _, w := range wrongTrees() {
		for call := range calls {
			for given := range 3 {
				of(call, w.tree, smalls(1, 2)[:given]...).refuses(t, w.e)
			}
		}
	}
}

// Trees that are spoilt somewhere: the same error from every call, or from none of them.
func TestP21SpoiltTrees(t *testing.T) {
	d := &dice{state: 211}
	refused := map[api.Errno]int{}
	for range drawn {
		u := d.spoilt(d.formula(d.roll(4), 0, d.quantifier))
		e := syntax.Check(u)
		refused[e]++
		for call := range calls {
			got := of(call, u).ask()
			if e != api.OK && got.String() != (answer{call: call, e: e}).String() || e == api.OK && (got.e == api.ErrArg || got.e == api.ErrZero || got.e == api.ErrDepth) {
				t.Fatalf("%s: %s, want %v", of(call, u), got, e)
			}
		}
	}
	if min(refused[api.OK], refused[api.ErrArg]) < drawn/10 {
		t.Errorf("refused: %v", refused)
	}
}

// What stands first in the promise is answered, where several would stand: the free names, the values and the shape ahead of
// the run, the shape ahead of the values, what the run crosses ahead of what comes of it.
func TestP21OrderOfErrors(t *testing.T) {
	long := "x <= N9"
	for _, l := range []struct {
		text string
		vals int
		want [calls]api.Errno
	}{
		{long, 0, [calls]api.Errno{api.ErrLimbs, api.ErrOpen, api.ErrArity, api.ErrShape, api.ErrLimbs, api.ErrLimbs}},
		{long, 1, [calls]api.Errno{api.ErrLimbs, api.ErrOpen, api.ErrLimbs, api.ErrShape, api.ErrLimbs, api.ErrLimbs}},
		{long, 2, [calls]api.Errno{api.ErrLimbs, api.ErrOpen, api.ErrArity, api.ErrShape, api.ErrLimbs, api.ErrLimbs}},
		{"x <= N9 + y", 1, [calls]api.Errno{api.ErrLimbs, api.ErrOpen, api.ErrArity, api.ErrShape, api.ErrLimbs, api.ErrFree}},
		{"some x . x <= N9", 0, [calls]api.Errno{api.ErrLimbs, api.ErrLimbs, api.ErrLimbs, api.ErrLimbs, api.ErrLimbs, api.ErrFree}},
		{"some x . x <= N9", 1, [calls]api.Errno{api.ErrLimbs, api.ErrLimbs, api.ErrArity, api.ErrArity, api.ErrLimbs, api.ErrFree}},
		{"some x . x <= N9 + y", 0, [calls]api.Errno{api.ErrLimbs, api.ErrOpen, api.ErrArity, api.ErrArity, api.ErrLimbs, api.ErrLimbs}},
		{"some x . x <= N9 + y", 1, [calls]api.Errno{api.ErrLimbs, api.ErrOpen, api.ErrLimbs, api.ErrLimbs, api.ErrLimbs, api.ErrLimbs}},
		// What comes would have too long a period, were it not for the run.
		{"5000 divides x and x <= N9", 1, [calls]api.Errno{api.ErrLimbs, api.ErrOpen, api.ErrLimbs, api.ErrShape, api.ErrLimbs, api.ErrLimbs}},
		{"5000 divides x", 0, [calls]api.Errno{api.OK, api.ErrOpen, api.ErrArity, api.ErrShape, api.OK, api.ErrPeriod}},
		// There is none, were it not for the run; and none, but for the values.
		{"some x . x < 0 and x > 0 and x <= N9", 0, [calls]api.Errno{api.ErrLimbs, api.ErrLimbs, api.ErrLimbs, api.ErrLimbs, api.ErrLimbs, api.ErrFree}},
		{"some x . x < 0 and x > 0 and y = 1", 0, [calls]api.Errno{api.OK, api.ErrOpen, api.ErrArity, api.ErrArity, api.OK, api.OK}},
		{"some x . x < 0 and x > 0 and y = 1", 1, [calls]api.Errno{api.OK, api.ErrOpen, api.OK, api.ErrNone, api.OK, api.OK}},
	} {
		u := read(t, l.text)
		for call, want := range l.want {
			q := of(call, u, smalls(1, 2)[:l.vals]...)
			if got := q.ask(); got.e != want || want != api.OK && !got.isZero() {
				t.Errorf("%s: %s, want %v", q, got, want)
			}
		}
	}
}
