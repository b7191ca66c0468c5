package elim_test

import (
	"slices"
	"strconv"
	"strings"
	"testing"

	"riddle/api"
	"riddle/arena"
	"riddle/elim"
	"riddle/simp"
	"riddle/zint"
)

// values are those of variables; a variable without one counts as 0.
type values map[int]api.Int

// with is the same, but for one variable.
func (v values) with(x int, value api.Int) values {
	changed := values{x: value}
	for other, value := range v {
		if other != x {
			changed[other] = value
		}
	}
	return changed
}

func (v values) String() string {
	var texts []string
	for x, value := range v {
		texts = append(texts, "v"+strconv.Itoa(x)+" is "+tellInt(value))
	}
	slices.Sort(texts)
	return strings.Join(texts, ", ")
}

// holds tells whether a plain formula is true under values, however great: an atom by what it says, word by word.
func holds(a *arena.Arena, id int, v values) bool {
	known := make([]bool, id+1)
	for _, other := range a.Reach(id) {
		node := whole(a, other)
		isSo := func(kid int) bool { return known[kid] }
		isNot := func(kid int) bool { return !known[kid] }
		switch node.Kind {
		case api.And:
			known[other] = !slices.ContainsFunc(node.Kids, isNot)
		case api.Or:
			known[other] = slices.ContainsFunc(node.Kids, isSo)
		case api.True:
			known[other] = true
		case api.Less:
			known[other] = zint.Sign(v.worth(node.T)) > 0
		case api.Div, api.Not:
			_, left, _ := zint.DivMod(v.worth(node.T), node.D)
			known[other] = (zint.Sign(left) == 0) == (node.Kind == api.Div)
		}
	}
	return known[id]
}

func (v values) worth(t api.Term) api.Int {
	k := t.K
	for _, q := range t.Parts {
		k = zint.Add(k, zint.Mul(q.C, v[q.Var]))
	}
	return k
}

func (d *dice) values(limbs int) values {
	v := values{}
	for _, x := range variables() {
		v[x] = d.number(limbs)
	}
	return v
}

// tooLong is a period whose values are not gone through one by one.
const tooLong = 500

// edges are the numbers at which a Less of a formula changes under values, and the least common multiple of all divisors.
func edges(a *arena.Arena, id, v int, vals values) ([]api.Int, int) {
	var at []api.Int
	period := n(1)
	for _, other := range a.Reach(id) {
		node := whole(a, other)
		i := slices.IndexFunc(node.T.Parts, func(q api.Part) bool { return q.Var == v })
		switch {
		case i < 0:
		case node.Kind == api.Less:
			q, _, _ := zint.DivMod(vals.with(v, n(0)).worth(node.T), zint.Neg(node.T.Parts[i].C))
			at = append(at, q)
		default:
			period = zint.Lcm(period, node.D)
		}
	}
	small, is := zint.Int64(period)
	if !is {
		small = tooLong
	}
	return at, int(small)
}

// looked are the values of a variable that are looked at one by one: a whole period and more around each number at which
// something changes. Between these, and beyond them, what is true repeats with the period.
func looked(a *arena.Arena, id, v int, vals values) []api.Int {
	at, period := edges(a, id, v, vals)
	if len(at) == 0 {
		at = []api.Int{n(0)}
	}
	var l []api.Int
	for _, edge := range at {
		for j := -period - 2; j <= period+2; j++ {
			l = append(l, zint.Add(edge, n(j)))
		}
	}
	return l
}

// everywhere are all values from below the least number at which something changes to above the greatest one, by a period
// and more, where the numbers are small.
func everywhere(a *arena.Arena, id, v int, vals values) []api.Int {
	at, period := edges(a, id, v, vals)
	low, high := int64(0), int64(0)
	for _, edge := range at {
		k, _ := zint.Int64(edge)
		low, high = min(low, k), max(high, k)
	}
	var l []api.Int
	for k := low - int64(period) - 2; k <= high+int64(period)+2; k++ {
		l = append(l, zint.Of(k))
	}
	return l
}

// truth tells by values of a variable that are gone through whether a formula is true with some of them, or with all.
func truth(a *arena.Arena, q asking, vals values, l []api.Int) bool {
	is := func(k api.Int) bool { return holds(a, q.id, vals.with(q.v, k)) }
	if q.name == "Some" {
		return slices.ContainsFunc(l, is)
	}
	return !slices.ContainsFunc(l, func(k api.Int) bool { return !is(k) })
}

// rightly fails unless what a call has answered is plain, has no variable that it should not have, and is true under
// values that are drawn just where the formula is with some integer, or with every one.
func rightly(t *testing.T, d *dice, a *arena.Arena, q asking, got int, gone func(*arena.Arena, int, int, values) []api.Int, seen *[2]int) {
	t.Helper()
	free := a.Free(q.id)
	if !a.Plain(got) || slices.ContainsFunc(a.Free(got), func(v int) bool { return v == q.v || !slices.Contains(free, v) }) {
		t.Fatalf("%s: %d, in\n%s", q, got, short(tellArena(a)))
	}
	for range 6 {
		vals := d.values(3)
		is := truth(a, q, vals, gone(a, q.id, q.v, vals))
		if holds(a, got, vals) != is {
			t.Fatalf("%s, under %s: %v, but not so of %d, in\n%s", q, vals, is, got, short(tellArena(a)))
		}
		if is {
			seen[0]++
		} else {
			seen[1]++
		}
	}
}

// What is answered is true just where the formula is with some integer, All's with every one.
func TestP153Truth(t *testing.T) {
	for _, c := range []struct {
		d    *dice
		gone func(*arena.Arena, int, int, values) []api.Int
	}{{&dice{state: 153, small: true}, everywhere}, {&dice{state: 154}, looked}} {
		var constant, open [2]int
		kinds := counts{}
		for range drawn {
			a := grown(t, c.d, api.MaxNodes, api.MaxLimbs)
			q := c.d.asking(a)
			if _, period := edges(a, max(0, min(q.id, a.Len()-1)), q.v, values{}); period >= tooLong {
				continue
			}
			got := q.ask(a)
			if got.e != api.OK {
				continue
			}
			kinds.count(a, got)
			seen := &open
			if got.id < 2 {
				seen = &constant
			}
			rightly(t, c.d, a, q, got.id, c.gone, seen)
		}
		kinds.wants(t, drawn/100)
		if min(constant[0], constant[1], open[0], open[1]) < drawn/10 {
			t.Errorf("constants: true and false %v times, others %v times", constant, open)
		}
	}
}

// By hand: numbers that are far from one another, and remainders that don't meet.
func TestP153ByHand(t *testing.T) {
	d := &dice{state: 155, small: true}
	far := widest(7, 5)
	var seen [2]int
	for _, f := range []form{
		and(bigLess(opposite(far), p(0, 1), p(1, -1)), bigLess(far, p(0, -1), p(1, 1), p(2, 1))),
		and(bigLess(opposite(far), p(0, 2), p(1, -1)), bigLess(far, p(0, -3), p(1, 1), p(2, 2)), div(4, 1, p(0, 1), p(2, 1))),
		or(and(bigLess(far, p(0, 3), p(1, 2)), bigLess(opposite(far), p(0, -2), p(2, 1))), and(div(6, 1, p(0, 1), p(1, 1)), not(4, 1, p(0, 1), p(2, 1)))),
		and(xy(4, -3, 1), xy(-4, 3, 2), div(3, 1, p(0, 1), p(2, 1))), and(div(6, 1, p(0, 2), p(1, 1)), div(4, 1, p(0, 3), p(2, 1))),
		and(or(xy(3, 1, 0), xz(-2, 1, 0)), or(xy(-3, -1, 4), xz(2, 1, 5)), not(2, 0, p(0, 1), p(1, 1))),
	} {
		for _, c := range calls() {
			a := arena.New(nil)
			q := asking{c, f(a), 0}
			got := q.ask(a)
			if got.e != api.OK {
				t.Fatalf("%s: %s, in\n%s", q, got, short(tellArena(a)))
			}
			for range 20 {
				rightly(t, d, a, q, got.id, looked, &seen)
			}
		}
	}
	if min(seen[0], seen[1]) < 100 {
		t.Errorf("true and false %v times", seen)
	}
}

// All is true just where Some of the opposite isn't; and where All is true, Some is.
func TestP153SomeAndAll(t *testing.T) {
	d := &dice{state: 156}
	var seen [2]int
	for range drawn / 2 {
		a := grown(t, d, api.MaxNodes, api.MaxLimbs)
		q := d.asking(a)
		every, _, e := elim.All(a, q.id, q.v)
		one, _, e2 := elim.Some(a, q.id, q.v)
		if e != api.OK || e2 != api.OK {
			continue
		}
		other, e := simp.Negate(a, q.id)
		if e != api.OK {
			continue
		}
		no, _, e := elim.Some(a, other, q.v)
		if e != api.OK {
			continue
		}
		for range 10 {
			vals := d.values(2)
			is := holds(a, every, vals)
			if is == holds(a, no, vals) || is && !holds(a, one, vals) {
				t.Fatalf("%s, under %s: All %v, in\n%s", q, vals, is, short(tellArena(a)))
			}
			if is {
				seen[0]++
			} else {
				seen[1]++
			}
		}
	}
	if min(seen[0], seen[1]) < drawn/4 {
		t.Errorf("true and false %v times", seen)
	}
}
