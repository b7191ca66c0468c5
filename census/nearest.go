package census

import (
	"slices"

	"riddle/api"
	"riddle/periods"
	"riddle/zint"
)

// by is a step by so much.
func by(k int64) func(x api.Int) api.Int {
	step := zint.Of(k)
	return func(x api.Int) api.Int { return zint.Add(x, step) }
}

// below are the numbers just below the cuts, the greatest one first: from above a row is come into there, for the cut itself
// belongs to the row above it.
func below(cuts []api.Int) []api.Int {
	var starts []api.Int
	down := by(-1)
	for _, cut := range slices.Backward(cuts) {
		starts = append(starts, down(cut))
	}
	return starts
}

// nearest is the first number of the set that is come upon from x on, x with it. Which way that is, the functions say: on is
// the next number, and gap how far it is from one number on to another one (below 0, if that one lies behind). starts are
// the numbers at which another row is come into, in the order in which they are come upon. In a nil set nothing is looked
// for: its period is 0.
func nearest(s *periods.Set, x api.Int, starts []api.Int, on func(x api.Int) api.Int, gap func(x, y api.Int) api.Int) (api.Int, bool) {
	for _, start := range starts {
		far := gap(x, start)
		if zint.Sign(far) <= 0 {
			continue
		}
		if found, is := among(s, x, atMost(far, s.Period()), on); is {
			return found, true
		}
		x = start
	}
	return among(s, x, s.Period(), on)
}

// among is the first one of the set among so many numbers from x on. As many as the period are enough where no cut is
// between them.
func among(s *periods.Set, x api.Int, count int, on func(x api.Int) api.Int) (api.Int, bool) {
	for range count {
		if s.Has(x) {
			return zint.Norm(x), true
		}
		x = on(x)
	}
	return api.Int{}, false
}

// atMost is the lesser one of a number and a bound.
func atMost(n api.Int, bound int) int {
	if k, fits := zint.Int64(n); fits && k < int64(bound) {
		return int(k)
	}
	return bound
}
