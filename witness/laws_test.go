package witness_test

import (
	"slices"
	"strconv"
	"strings"
	"testing"

	"riddle/api"
	"riddle/arena"
	"riddle/ground"
	"riddle/zint"
)

// values are those of variables; a variable without one counts as 0.
type values map[int]int

// with is the same, but for one variable.
func (v values) with(x, value int) values {
	changed := values{x: value}
	for other, value := range v {
		if other != x {
			changed[other] = value
		}
	}
	return changed
}

func (v values) String() string {
	var texts []string
	for x, value := range v {
		texts = append(texts, "v"+strconv.Itoa(x)+" is "+strconv.Itoa(value))
	}
	slices.Sort(texts)
	return strings.Join(texts, ", ")
}

func (v values) worth(t api.Term) int {
	k := small(t.K)
	for _, q := range t.Parts {
		k += small(q.C) * v[q.Var]
	}
	return k
}

func small(k api.Int) int {
	is, _ := zint.Int64(k)
	return int(is)
}

// row is the same as a list.
func (v values) row() []api.Value {
	var l []api.Value
	for x, value := range v {
		l = append(l, val(x, value))
	}
	return l
}

// A span is where all values lie by which a quantifier can be told: from low + 1 on, so many.
type span struct {
	low  api.Term
	many int
}

// A world is an arena with the spans of its quantifiers.
type world struct {
	*arena.Arena
	spans map[int]span
}

// holds tells whether a formula is true under values: an atom by what it says, a quantifier by its values one by one.
func (w world) holds(id int, v values) bool {
	node := whole(w.Arena, id)
	isSo := func(kid int) bool { return w.holds(kid, v) }
	isNot := func(kid int) bool { return !w.holds(kid, v) }
	switch node.Kind {
	case api.And:
		return !slices.ContainsFunc(node.Kids, isNot)
	case api.Or:
		return slices.ContainsFunc(node.Kids, isSo)
	case api.Some, api.All:
		where := w.spans[id]
		for k := range where.many {
			if w.holds(node.Kids[0], v.with(node.Var, v.worth(where.low)+1+k)) == (node.Kind == api.Some) {
				return node.Kind == api.Some
			}
		}
		return node.Kind == api.All
	case api.Less:
		return v.worth(node.T) > 0
	case api.Div, api.Not:
		return (v.worth(node.T)%small(node.D) == 0) == (node.Kind == api.Div)
	}
	return node.Kind == api.True
}

// away is a variable above a term by more than some number, or, turned, below it by that or more.
func away(v int, t api.Term, more int, turned bool) api.Atom {
	parts, k := []api.Part{p(v, 1)}, zint.Sub(n(-more), t.K)
	for _, q := range t.Parts {
		parts = append(parts, api.Part{Var: q.Var, C: opposite(q.C)})
	}
	if turned {
		for i := range parts {
			parts[i].C = opposite(parts[i].C)
		}
		k = zint.Sub(n(1), k)
	}
	return api.Atom{Kind: api.Less, T: api.Term{Parts: parts, K: k}}
}

// bound binds a variable of a formula, so that all values by which it can be told lie in a span: a Some with these alone, an
// All with all others true.
func (w world) bound(d *dice, kind, v, id int) int {
	where := span{low: api.Term{K: n(d.roll(7) - 3)}, many: 1 + d.roll(4)}
	if other := d.variable(); other != v && d.roll(2) == 0 {
		where.low.Parts = []api.Part{p(other, 2*d.roll(2)-1)}
	}
	join, turned := api.And, false
	if kind == api.All {
		join, turned = api.Or, true
	}
	low := laid(w.Atom(away(v, where.low, 0, turned)))
	high := laid(w.Atom(away(v, where.low, where.many, !turned)))
	made := laid(w.Bind(kind, v, laid(w.Join(join, low, high, id))))
	w.spans[made] = where
	return made
}

// formula draws one with so many quantifiers at most, of which each can be told by some values. Ands are drawn more often
// than Ors: else it is rare that there is nothing.
func (d *dice) formula(w world, deep, quantifiers int) int {
	if deep == 0 {
		return laid(w.Atom(d.atom(1)))
	}
	if quantifiers > 0 && d.roll(2) == 0 {
		return w.bound(d, api.Some+d.roll(2), d.variable(), d.formula(w, deep-1, quantifiers-1))
	}
	var kids []int
	for range 2 + d.roll(3) {
		kids = append(kids, d.formula(w, d.roll(deep), quantifiers/2))
	}
	return laid(w.Join(api.And+d.roll(5)/4, kids...))
}

// grid calls for all values of some variables from -far to far, till one call answers true.
func grid(l []int, far int, v values, is func(v values) bool) bool {
	if len(l) == 0 {
		return is(v)
	}
	for k := -far; k <= far; k++ {
		if grid(l[1:], far, v.with(l[0], k), is) {
			return true
		}
	}
	return false
}

// farBy is how far the numbers are looked at one by one, by how many variables there are.
func farBy(vars int) int { return []int{0, 150, 12, 5, 2}[vars] }

// What One answers makes the formula true; where there is nothing, numbers looked at one by one find none.
func TestP203One(t *testing.T) {
	d := &dice{state: 203, small: true}
	told := map[bool]int{}
	for range drawn {
		d.single = false
		w := world{arena.New(nil), map[int]span{}}
		v := d.roll(4)
		id := singly(d, w, v, 1+d.roll(4))
		got := oneOf(id, v).ask(w.Arena)
		if got.e != api.OK {
			t.Fatalf("%s, in\n%s", got, tellArena(w.Arena))
		}
		found := values{v: small(got.list[0])}
		is, e := ground.Eval(w.Arena, id, found.row())
		if e != api.OK || got.is && (!is || !w.holds(id, found)) {
			t.Fatalf("One of %d and v%d: %s, but not so, in\n%s", id, v, got, tellArena(w.Arena))
		}
		if !got.is && grid(vars(v), farBy(1), values{}, func(at values) bool { found = at; return w.holds(id, at) }) {
			t.Fatalf("One of %d and v%d: %s, but %s, in\n%s", id, v, got, found, tellArena(w.Arena))
		}
		told[got.is]++
	}
	if min(told[true], told[false]) < drawn/5 {
		t.Errorf("told: %v", told)
	}
}

// singly draws a plain formula of one variable.
func singly(d *dice, w world, v, deep int) int {
	if deep == 0 {
		x := d.atom(1)
		x.T.Parts = []api.Part{{Var: v, C: d.coefficient()}}
		return laid(w.Atom(x))
	}
	var kids []int
	for range 2 + d.roll(3) {
		kids = append(kids, singly(d, w, v, d.roll(deep)))
	}
	return laid(w.Join(api.And+d.roll(5)/3, kids...))
}

// Under what Find answers, and the values that it was given, the formula is true; where the answer is false, numbers looked
// at one by one find none. With no vars it is whether the formula is true.
func TestP203Find(t *testing.T) {
	d := &dice{state: 204, small: true}
	told, seen := map[bool]int{}, map[string]int{}
	for range drawn {
		d.single = d.roll(4) == 0
		w := world{arena.New(nil), map[int]span{}}
		id := d.formula(w, 1+d.roll(3), d.roll(3))
		q, given := findOf(id, nil, nil), values{}
		for _, v := range w.Free(id) {
			if d.roll(3) > 0 {
				q.vars = slices.Insert(q.vars, d.roll(len(q.vars)+1), v)
				continue
			}
			given[v] = d.roll(21) - 10
			q.vals = append(q.vals, val(v, given[v]), val(v, d.roll(9)))
		}
		plain := w.Plain(id)
		got := q.ask(w.Arena)
		if got.e != api.OK {
			seen["refused"]++
			continue
		}
		found := values{}
		for v, value := range given {
			found[v] = value
		}
		for i, k := range got.list {
			found[q.vars[i]] = small(k)
		}
		if got.is && (len(got.list) != len(q.vars) || !w.holds(id, found)) {
			t.Fatalf("%s: %s, but not so, in\n%s", q, got, short(tellArena(w.Arena)))
		}
		if is, e := ground.Eval(w.Arena, id, found.row()); plain && got.is && (e != api.OK || !is) {
			t.Fatalf("%s: %s, but Eval: %v, %v, in\n%s", q, got, is, e, short(tellArena(w.Arena)))
		}
		if !got.is && grid(q.vars, farBy(len(q.vars)), given, func(at values) bool { found = at; return w.holds(id, at) }) {
			t.Fatalf("%s: %s, but %s, in\n%s", q, got, found, short(tellArena(w.Arena)))
		}
		told[got.is]++
		seen[strconv.Itoa(len(q.vars))+" vars, "+strconv.FormatBool(got.is)]++
		if !plain {
			seen["quantifiers, "+strconv.FormatBool(got.is)]++
		}
	}
	if min(told[true], told[false]) < drawn/8 || seen["refused"] > drawn/8 {
		t.Errorf("told: %v, seen: %v", told, seen)
	}
	for _, what := range []string{"0 vars, true", "0 vars, false", "1 vars, true", "1 vars, false", "2 vars, true", "2 vars, false", "3 vars, true", "3 vars, false", "quantifiers, true", "quantifiers, false"} {
		if seen[what] < drawn/100 {
			t.Errorf("%s: %d times, in %v", what, seen[what], seen)
		}
	}
}

// What is found does not hang on the order of vars, as far as there is something or nothing.
func TestP203AnyOrder(t *testing.T) {
	d := &dice{state: 205, small: true}
	told := map[bool]int{}
	for range drawn / 2 {
		first := *d
		w := world{arena.New(nil), map[int]span{}}
		id := d.formula(w, 2, 0)
		free := w.Free(id)
		got := findOf(id, free, nil).ask(w.Arena)
		for range 2 {
			again, w := first, world{arena.New(nil), map[int]span{}}
			again.formula(w, 2, 0)
			other := slices.Clone(free)
			for i := range other {
				j := d.roll(i + 1)
				other[i], other[j] = other[j], other[i]
			}
			turned := findOf(id, other, nil).ask(w.Arena)
			if got.e == api.OK && turned.e == api.OK && turned.is != got.is {
				t.Fatalf("%d, %v: %s, but %v: %s, in\n%s", id, free, got, other, turned, short(tellArena(w.Arena)))
			}
		}
		told[got.is]++
	}
	if min(told[true], told[false]) < drawn/20 {
		t.Errorf("told: %v", told)
	}
}
