package limit_test

import (
	"slices"
	"strconv"
	"strings"
	"testing"

	"riddle/api"
	"riddle/arena"
	"riddle/limit"
	"riddle/simp"
	"riddle/zint"
)

// values are those of variables; a variable without one counts as 0.
type values map[int]api.Int

// with is the same, but for one variable.
func (v values) with(x int, value api.Int) values {
	changed := values{x: value}
	for other, value := range v {
		if other != x {
			changed[other] = value
		}
	}
	return changed
}

func (v values) String() string {
	var texts []string
	for x, value := range v {
		texts = append(texts, "v"+strconv.Itoa(x)+" is "+tellInt(value))
	}
	slices.Sort(texts)
	return strings.Join(texts, ", ")
}

// holds tells whether a plain formula is true under values, however great: an atom by what it says, word by word.
func holds(a *arena.Arena, id int, v values) bool {
	known := make([]bool, id+1)
	for _, other := range a.Reach(id) {
		node := whole(a, other)
		isSo := func(kid int) bool { return known[kid] }
		isNot := func(kid int) bool { return !known[kid] }
		switch node.Kind {
		case api.And:
			known[other] = !slices.ContainsFunc(node.Kids, isNot)
		case api.Or:
			known[other] = slices.ContainsFunc(node.Kids, isSo)
		case api.True:
			known[other] = true
		case api.Less:
			known[other] = zint.Sign(v.worth(node.T)) > 0
		case api.Div, api.Not:
			_, left, _ := zint.DivMod(v.worth(node.T), node.D)
			known[other] = (zint.Sign(left) == 0) == (node.Kind == api.Div)
		}
	}
	return known[id]
}

func (v values) worth(t api.Term) api.Int {
	k := t.K
	for _, q := range t.Parts {
		k = zint.Add(k, zint.Mul(q.C, v[q.Var]))
	}
	return k
}

func (d *dice) values(limbs int) values {
	v := values{}
	for _, x := range variables() {
		v[x] = zint.Mul(d.number(limbs), n(1+d.roll(3)))
	}
	return v
}

// A tally counts how often something was true and false.
type tally [2]int

func (c *tally) count(is bool) {
	if is {
		c[0]++
	} else {
		c[1]++
	}
}

// wants fails unless both were often enough.
func (c *tally) wants(t *testing.T, often int) {
	t.Helper()
	if min(c[0], c[1]) < often {
		t.Errorf("true and false %v times", *c)
	}
}

// A view is all that the four calls tell of a formula and a variable.
type view struct {
	asking
	low, high    int
	lower, upper []api.Term
	delta        api.Int
}

// viewed fails unless the four calls are answered, where Bounds is and the meter lets nodes be made.
func viewed(t *testing.T, a *arena.Arena, q asking) (view, bool) {
	t.Helper()
	s := view{asking: q}
	var es [4]api.Errno
	s.lower, s.upper, es[0] = limit.Bounds(a, q.id, q.v)
	if es[0] != api.OK || a.Meter().Over() != api.OK {
		return view{}, false
	}
	s.low, es[1] = limit.Low(a, q.id, q.v)
	s.high, es[2] = limit.High(a, q.id, q.v)
	s.delta, es[3] = limit.Delta(a, q.id, q.v)
	if es != [4]api.Errno{} {
		t.Fatalf("%s: %v, in\n%s", q, es, short(tellArena(a)))
	}
	return s, true
}

// bounds are the numbers of all bounds under values, rising.
func (s view) bounds(v values) []api.Int {
	var l []api.Int
	for _, bound := range slices.Concat(s.lower, s.upper) {
		l = append(l, v.worth(bound))
	}
	slices.SortFunc(l, zint.Cmp)
	return l
}

// A look is a view under values: what is true with which value of the variable.
type look struct {
	t *testing.T
	a *arena.Arena
	view
	vals values
}

func (l look) at(id int, k api.Int) bool { return holds(l.a, id, l.vals.with(l.v, k)) }

// same fails unless one formula with one value is true just where another one is with another value.
func (l look) same(id int, k api.Int, other int, m api.Int) bool {
	l.t.Helper()
	is := l.at(id, k)
	if l.at(other, m) != is {
		l.t.Fatalf("%s, under %s: %d with %s is %v, %d with %s isn't; Low %d, High %d, %s, %s, Delta %s, in\n%s", l.asking, l.vals, id, tellInt(k), is, other, tellInt(m), l.low, l.high, tellTerms(l.lower), tellTerms(l.upper), tellInt(l.delta), short(tellArena(l.a)))
	}
	return is
}

// looks calls f with views that are drawn, each under several values.
func looks(t *testing.T, d *dice, f func(l look)) {
	t.Helper()
	for range drawn {
		a := grown(t, d, 2000, 8)
		s, is := viewed(t, a, d.asking(a))
		if !is {
			continue
		}
		for range 6 {
			f(look{t, a, s, d.values(2)})
		}
	}
}

// Below all bounds the formula is true just where Low is, from the first value on; above all of them just where High is.
// Without bounds it is both everywhere.
func TestP144FarAway(t *testing.T) {
	for _, d := range []*dice{{state: 143, small: true}, {state: 144}} {
		var belows, aboves, nowhere tally
		looks(t, d, func(l look) {
			away := []api.Int{n(1), n(2), n(1 + d.roll(30)), l.delta, widest(2)}
			bounds := l.bounds(l.vals)
			for _, far := range away {
				if len(bounds) == 0 {
					is := l.same(l.id, far, l.low, far)
					l.same(l.id, far, l.high, far)
					nowhere.count(is)
					continue
				}
				k := zint.Sub(bounds[0], far)
				belows.count(l.same(l.id, k, l.low, k))
				k = zint.Add(bounds[len(bounds)-1], far)
				aboves.count(l.same(l.id, k, l.high, k))
			}
		})
		belows.wants(t, drawn)
		aboves.wants(t, drawn)
		nowhere.wants(t, drawn/4)
	}
}

// Low and High are the same at n and n + d: wherever n is.
func TestP144Period(t *testing.T) {
	for _, d := range []*dice{{state: 145, small: true}, {state: 146}} {
		var lows, highs tally
		looks(t, d, func(l look) {
			for range 3 {
				k := d.number(3)
				next := zint.Add(k, l.delta)
				low, high := l.same(l.low, k, l.low, next), l.same(l.high, k, l.high, next)
				if l.low > 1 {
					lows.count(low)
				}
				if l.high > 1 {
					highs.count(high)
				}
			}
		})
		lows.wants(t, drawn/2)
		highs.wants(t, drawn/2)
	}
}

// The formula is the same at n and n + d, if no bound is from the one to the other: also if one is just beside them.
func TestP144Between(t *testing.T) {
	for _, d := range []*dice{{state: 147, small: true}, {state: 148}} {
		var seen tally
		stretches, edges := 0, 0
		looks(t, d, func(l look) {
			bounds := l.bounds(l.vals)
			starts := []api.Int{d.number(2)}
			for _, b := range bounds {
				starts = append(starts, zint.Add(b, n(1)), zint.Sub(b, zint.Add(l.delta, n(1))), zint.Add(b, n(d.roll(20)-10)))
			}
			for i, k := range starts {
				next := zint.Add(k, l.delta)
				if slices.ContainsFunc(bounds, func(b api.Int) bool { return zint.Cmp(k, b) <= 0 && zint.Cmp(b, next) <= 0 }) {
					continue
				}
				seen.count(l.same(l.id, k, l.id, next))
				if i > 0 && zint.Cmp(bounds[0], k) < 0 && zint.Cmp(next, bounds[len(bounds)-1]) < 0 {
					stretches++
				}
				if i > 0 && i%3 != 0 {
					edges++
				}
			}
		})
		seen.wants(t, drawn)
		if min(stretches, edges) < drawn/4 {
			t.Errorf("%d between bounds, %d beside them", stretches, edges)
		}
	}
}

// Bounds and Delta have no variable that the formula doesn't have, nor the one that they are of; Low and High are plain,
// and the variable is in no Less of them.
func TestP144WhatIsThere(t *testing.T) {
	d := &dice{state: 149}
	turned := 0
	for range drawn {
		a := grown(t, d, 2000, 8)
		q := d.asking(a)
		s, is := viewed(t, a, q)
		if !is {
			continue
		}
		free := a.Free(q.id)
		for _, bound := range slices.Concat(s.lower, s.upper) {
			for _, part := range bound.Parts {
				if part.Var == q.v || !slices.Contains(free, part.Var) {
					t.Fatalf("%s: the bound %s, in\n%s", q, tellTerm(bound), short(tellArena(a)))
				}
			}
		}
		for _, id := range []int{s.low, s.high} {
			if !a.Plain(id) || slices.ContainsFunc(a.Free(id), func(v int) bool { return !slices.Contains(free, v) }) {
				t.Fatalf("%s: %d, in\n%s", q, id, short(tellArena(a)))
			}
			if lower, upper, e := limit.Bounds(a, id, q.v); len(lower)+len(upper) > 0 || e != api.OK {
				t.Fatalf("%s: %d has the bounds %s, %s, %v, in\n%s", q, id, tellTerms(lower), tellTerms(upper), e, short(tellArena(a)))
			}
			if id != q.id && id > 1 {
				turned++
			}
		}
	}
	if turned < drawn/10 {
		t.Errorf("%d turned", turned)
	}
}

// moved are bounds that are 1 more each.
func moved(l []api.Term) []api.Term {
	var more []api.Term
	for _, bound := range l {
		more = append(more, api.Term{Parts: bound.Parts, K: zint.Add(bound.K, n(1))})
	}
	return more
}

// opposites calls f with the views of a formula that is drawn and of its opposite. Where anew, the formula is joined anew
// ahead, so that the opposite has an atom for each one of it.
func opposites(t *testing.T, d *dice, anew bool, f func(a *arena.Arena, one, other view)) {
	t.Helper()
	for range drawn {
		a := grown(t, d, 2000, 8)
		q := d.asking(a)
		if !a.Plain(q.id) || a.Meter().Over() != api.OK {
			continue
		}
		if anew {
			q.id = laid(simp.Again(a, q.id))
		}
		one, is := viewed(t, a, q)
		if !is {
			continue
		}
		negated, e := simp.Negate(a, q.id)
		if e != api.OK {
			// 1 less a number that is as great as may be has a limb too many.
			continue
		}
		other, is := viewed(t, a, asking{negated, q.v})
		if !is {
			t.Fatalf("%s: the opposite has no bounds, in\n%s", q, short(tellArena(a)))
		}
		f(a, one, other)
	}
}

// Low and High of an opposite are the opposites: of each formula, whether it could be simpler or not.
func TestP145FarAway(t *testing.T) {
	for _, d := range []*dice{{state: 150, small: true}, {state: 151}} {
		var lows, highs tally
		opposites(t, d, false, func(a *arena.Arena, one, other view) {
			low, high := laid(simp.Negate(a, one.low)), laid(simp.Negate(a, one.high))
			for range 8 {
				l := look{t, a, one, d.values(2)}
				k := d.number(3)
				isLow, isHigh := l.same(low, k, other.low, k), l.same(high, k, other.high, k)
				if low > 1 {
					lows.count(isLow)
				}
				if high > 1 {
					highs.count(isHigh)
				}
			}
		})
		lows.wants(t, drawn/2)
		highs.wants(t, drawn/2)
	}
}

// Delta of an opposite is the same, a lower bound b of the one is an upper bound b + 1 of the other one.
func TestP145BoundsAndDelta(t *testing.T) {
	d := &dice{state: 152}
	lowers, uppers, above := 0, 0, 0
	opposites(t, d, true, func(a *arena.Arena, one, other view) {
		if !areTerms(moved(one.lower), other.upper) || !areTerms(moved(other.lower), one.upper) {
			t.Fatalf("%s: %s, %s; of the opposite: %s, %s, in\n%s", one.asking, tellTerms(one.lower), tellTerms(one.upper), tellTerms(other.lower), tellTerms(other.upper), short(tellArena(a)))
		}
		if !isInt(one.delta, other.delta) {
			t.Fatalf("%s: Delta %s, of the opposite %s, in\n%s", one.asking, tellInt(one.delta), tellInt(other.delta), short(tellArena(a)))
		}
		lowers += len(one.lower)
		uppers += len(one.upper)
		if !isInt(one.delta, n(1)) {
			above++
		}
	})
	if min(lowers, uppers, above) < drawn/8 {
		t.Errorf("%d lower ones, %d upper ones, %d times a Delta above 1", lowers, uppers, above)
	}
}

// Where a formula could be simpler, its opposite is, and may have fewer atoms: its bounds are among those that are told
// of the formula, and its Delta divides the formula's.
func TestP145OfWhatCouldBeSimpler(t *testing.T) {
	d := &dice{state: 153}
	among := func(some, l []api.Term) bool {
		return !slices.ContainsFunc(some, func(s api.Term) bool {
			return !slices.ContainsFunc(l, func(t api.Term) bool { return tellTerm(s) == tellTerm(t) })
		})
	}
	fewer := 0
	opposites(t, d, false, func(a *arena.Arena, one, other view) {
		_, left, _ := zint.DivMod(one.delta, other.delta)
		if !among(other.upper, moved(one.lower)) || !among(moved(other.lower), one.upper) || zint.Sign(left) != 0 {
			t.Fatalf("%s: %s, %s, Delta %s; of the opposite: %s, %s, Delta %s, in\n%s", one.asking, tellTerms(one.lower), tellTerms(one.upper), tellInt(one.delta), tellTerms(other.lower), tellTerms(other.upper), tellInt(other.delta), short(tellArena(a)))
		}
		if len(other.upper) < len(one.lower) {
			fewer++
		}
	})
	if fewer == 0 {
		t.Error("none has fewer bounds")
	}
}

// By hand: the opposite of a formula with a bound on each side and a divisor.
func TestP145ByHand(t *testing.T) {
	a := arena.New(nil)
	id := and(xy(1, -1, 0), x(-1, 9), div(4, 0, p(0, 1), p(1, 1)))(a)
	other := laid(simp.Negate(a, id))
	lower, upper, e := limit.Bounds(a, other, 0)
	if !areTerms(lower, terms(sum(8))) || !areTerms(upper, terms(sum(1, p(1, 1)))) || e != api.OK {
		t.Errorf("%s, %s, %v", tellTerms(lower), tellTerms(upper), e)
	}
	if d, e := limit.Delta(a, other, 0); !isInt(d, n(4)) || e != api.OK {
		t.Errorf("%s, %v", tellInt(d), e)
	}
	for _, call := range []far{low(), high()} {
		if got, e := call.do(a, other, 0); got != 1 || e != api.OK {
			t.Errorf("%s: %d, %v", call.name, got, e)
		}
	}
}
