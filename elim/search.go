package elim

import (
	"iter"

	"riddle/api"
	"riddle/arena"
	"riddle/limit"
	"riddle/simp"
	"riddle/subst"
	"riddle/term"
	"riddle/unit"
	"riddle/zint"
)

// always is the number of the constant's node that is true.
const always = 1

// An end is where the test points begin, and the way in which they go on: up from far below and from the lower bounds, or
// down from far above and from the upper ones.
type end struct {
	high bool
	// far is the formula beyond all bounds at this end.
	far    func(a *arena.Arena, id, v int) (int, api.Errno)
	bounds []api.Term
	// stride leads from one point to the next one.
	stride api.Term
}

// endOf is the end with fewer bounds: each one costs as many points as the period is long.
func endOf(lower, upper []api.Term) end {
	if len(upper) < len(lower) {
		return end{high: true, far: limit.High, bounds: upper, stride: term.Const(zint.Of(-1))}
	}
	return end{far: limit.Low, bounds: lower, stride: term.Const(zint.Of(1))}
}

// A search is for the values of the variable v under which a formula is true.
type search struct {
	a *arena.Arena
	v int
	// near is the formula with v brought to the coefficient 1; away is that one beyond all bounds.
	near, away int
	l, delta   api.Int
	end
}

func searchFor(a *arena.Arena, id, v int) (search, api.Errno) {
	near, l, e := unit.Unit(a, id, v)
	if e != api.OK {
		return search{}, e
	}
	delta, e := limit.Delta(a, near, v)
	if e != api.OK {
		return search{}, e
	}
	lower, upper, e := limit.Bounds(a, near, v)
	if e != api.OK {
		return search{}, e
	}
	from := endOf(lower, upper)
	away, e := from.far(a, near, v)
	if e != api.OK {
		return search{}, e
	}
	return search{a: a, v: v, near: near, away: away, l: l, delta: delta, end: from}, api.OK
}

// run is what comes of all test points together, and how many of them were looked at. A point is spent ahead of all that
// is made for it, so that the meter ends a search however long the period is.
func (s search) run() (came, points int, e api.Errno) {
	var instances []int
	for id, point := range s.points() {
		if e := s.a.Meter().Spend(1); e != api.OK {
			return 0, 0, e
		}
		instance, e := subst.Put(s.a, id, s.v, point)
		if e != api.OK {
			return 0, 0, e
		}
		instances = append(instances, instance)
		if instance == always {
			return always, len(instances), api.OK
		}
	}
	came, e = simp.Or(s.a, instances...)
	if e != api.OK {
		return 0, 0, e
	}
	return came, len(instances), api.OK
}

// points are the test points in their order, each behind the formula into which it is put.
func (s search) points() iter.Seq2[int, api.Term] {
	return func(yield func(id int, point api.Term) bool) {
		period := s.delta
		if !isFree(s.a, s.away, s.v) {
			// All points far away have the same instance.
			period = zint.Of(1)
		}
		for point := range s.behind(term.Const(zint.Of(0)), period) {
			if !yield(s.away, point) {
				return
			}
		}
		for _, bound := range s.bounds {
			for point := range s.behind(bound, s.delta) {
				if !yield(s.near, point) {
					return
				}
			}
		}
	}
}

// behind are so many points one behind the other, the first of them one stride behind a start.
func (s search) behind(start api.Term, many api.Int) iter.Seq[api.Term] {
	return func(yield func(point api.Term) bool) {
		one := zint.Of(1)
		point := start
		for j := one; zint.Cmp(j, many) <= 0; j = zint.Add(j, one) {
			point = term.Add(point, s.stride)
			if !yield(point) {
				return
			}
		}
	}
}
