package drive_test

import (
	"slices"
	"strconv"
	"strings"
	"testing"

	"riddle/api"
	"riddle/arena"
	"riddle/drive"
	"riddle/simp"
	"riddle/zint"
)

// values are those of variables; a variable without one counts as 0.
type values map[int]int

// with is the same, but for one variable.
func (v values) with(x, value int) values {
	changed := values{x: value}
	for other, value := range v {
		if other != x {
			changed[other] = value
		}
	}
	return changed
}

func (v values) String() string {
	var texts []string
	for x, value := range v {
		texts = append(texts, "v"+strconv.Itoa(x)+" is "+strconv.Itoa(value))
	}
	slices.Sort(texts)
	return strings.Join(texts, ", ")
}

func (v values) worth(t api.Term) int {
	k := small(t.K)
	for _, q := range t.Parts {
		k += small(q.C) * v[q.Var]
	}
	return k
}

func small(k api.Int) int {
	is, _ := zint.Int64(k)
	return int(is)
}

// A span is where all values lie by which a quantifier can be told: from low + 1 on, so many.
type span struct {
	low  api.Term
	many int
}

// A world is an arena with the spans of its quantifiers.
type world struct {
	*arena.Arena
	spans map[int]span
}

// holds tells whether a formula is true under values: an atom by what it says, a quantifier by its values one by one.
func (w world) holds(id int, v values) bool {
	node := whole(w.Arena, id)
	isSo := func(kid int) bool { return w.holds(kid, v) }
	isNot := func(kid int) bool { return !w.holds(kid, v) }
	switch node.Kind {
	case api.And:
		return !slices.ContainsFunc(node.Kids, isNot)
	case api.Or:
		return slices.ContainsFunc(node.Kids, isSo)
	case api.Some, api.All:
		where := w.spans[id]
		for k := range where.many {
			if w.holds(node.Kids[0], v.with(node.Var, v.worth(where.low)+1+k)) == (node.Kind == api.Some) {
				return node.Kind == api.Some
			}
		}
		return node.Kind == api.All
	case api.Less:
		return v.worth(node.T) > 0
	case api.Div, api.Not:
		return (v.worth(node.T)%small(node.D) == 0) == (node.Kind == api.Div)
	}
	return node.Kind == api.True
}

// away is a variable above a term by more than some number, or, turned, below it by that or more.
func away(v int, t api.Term, more int, turned bool) api.Atom {
	parts, k := []api.Part{p(v, 1)}, n(-more)
	for _, q := range t.Parts {
		parts = append(parts, api.Part{Var: q.Var, C: opposite(q.C)})
	}
	k = zint.Sub(k, t.K)
	if turned {
		for i := range parts {
			parts[i].C = opposite(parts[i].C)
		}
		k = zint.Sub(n(1), k)
	}
	return api.Atom{Kind: api.Less, T: api.Term{Parts: parts, K: k}}
}

// bound binds a variable of a formula, so that all values by which it can be told lie in a span: a Some with these alone, an
// All with all others true.
func (w world) bound(d *dice, kind, v, id int) int {
	where := span{low: api.Term{K: n(d.roll(7) - 3)}, many: d.roll(5)}
	if other := d.variable(); other != v && d.roll(2) == 0 {
		where.low.Parts = []api.Part{p(other, 2*d.roll(2)-1)}
	}
	join, turned := api.And, false
	if kind == api.All {
		join, turned = api.Or, true
	}
	low := laid(w.Atom(away(v, where.low, 0, turned)))
	high := laid(w.Atom(away(v, where.low, where.many, !turned)))
	made := laid(w.Bind(kind, v, laid(w.Join(join, low, high, id))))
	w.spans[made] = where
	return made
}

// formula draws one with so many quantifiers at most, of which each can be told by some values.
func (d *dice) formula(w world, deep, quantifiers int) int {
	if deep == 0 {
		return laid(w.Atom(d.atom(1)))
	}
	if quantifiers > 0 && d.roll(2) == 0 {
		return w.bound(d, api.Some+d.roll(2), d.variable(), d.formula(w, deep-1, quantifiers-1))
	}
	var kids []int
	for i := range 2 + d.roll(2) {
		share := quantifiers / 2
		if i == 0 {
			share = quantifiers - share
		}
		kids = append(kids, d.formula(w, d.roll(deep), share))
	}
	return laid(w.Join(api.And+d.roll(2), kids...))
}

func (d *dice) values() values {
	v := values{}
	for x := range 4 {
		v[x] = d.roll(15) - 7
	}
	return v
}

// isProper fails unless what Run has answered is plain and has no variable that it should not have, and unless Run of it is
// it, without steps, with nothing made or spent.
func isProper(t *testing.T, a *arena.Arena, id, got int) {
	t.Helper()
	free := a.Free(id)
	if !a.Plain(got) || slices.ContainsFunc(a.Free(got), func(v int) bool { return !slices.Contains(free, v) }) {
		t.Fatalf("Run of %d: %d, in\n%s", id, got, short(tellArena(a)))
	}
	if len(free) == 0 && got > 1 {
		t.Fatalf("Run of %d, a sentence: %d, in\n%s", id, got, short(tellArena(a)))
	}
	was := tellArena(a)
	if again := runOf().answer(a, got, 0); again.String() != (answer{id: got}).String() || tellArena(a) != was {
		t.Fatalf("Run of %d, which came of %d: %s, in\n%s", got, id, again, short(tellArena(a)))
	}
}

// What Run answers is true just where the formula is, under whichever values; of a sentence it is a constant.
func TestP163Truth(t *testing.T) {
	d := &dice{state: 163, small: true}
	var constant, open [2]int
	seen := map[string]int{}
	for range drawn {
		w := world{arena.New(nil), map[int]span{}}
		id := d.formula(w, 2+d.roll(4), 1+d.roll(4))
		if d.roll(3) == 0 {
			for _, v := range w.Free(id) {
				id = w.bound(d, api.Some+d.roll(2), v, id)
			}
		}
		got, steps, e := drive.Run(w.Arena, id)
		if e != api.OK {
			seen["refused"]++
			continue
		}
		isProper(t, w.Arena, id, got)
		if len(steps) > 2 {
			seen["several steps"]++
		}
		if len(w.Free(id)) == 0 {
			seen["a sentence"]++
		}
		told := &open
		if got < 2 {
			told = &constant
		}
		for range 5 {
			v := d.values()
			is := w.holds(id, v)
			if w.holds(got, v) != is {
				t.Fatalf("Run of %d: %d, under %s: %v, but not so, in\n%s", id, got, v, is, short(tellArena(w.Arena)))
			}
			if is {
				told[0]++
			} else {
				told[1]++
			}
		}
	}
	if seen["refused"] > drawn/5 || min(seen["several steps"], seen["a sentence"]) < drawn/8 {
		t.Errorf("seen: %v", seen)
	}
	if min(constant[0], constant[1], open[0], open[1]) < drawn/4 {
		t.Errorf("constants: true and false %v times, others %v times", constant, open)
	}
}

// reach is how far from 0 a value may be by which a quantifier without bounds is told: beyond that what is true repeats,
// as long as no number is great.
const reach = 60

// One quantifier without bounds of its own: what Some and Run answer is true where it is with values that are gone through.
func TestP163WithoutBounds(t *testing.T) {
	d := &dice{state: 164, small: true}
	var told [2]int
	for range drawn / 4 {
		w := world{arena.New(nil), map[int]span{}}
		plain, v, kind := d.formula(w, 2+d.roll(3), 0), d.roll(4), api.Some+d.roll(2)
		id := laid(w.Bind(kind, v, plain))
		w.spans[id] = span{low: api.Term{K: n(-reach)}, many: 2 * reach}
		got, _, e := drive.Run(w.Arena, id)
		other, _, e2 := drive.Some(w.Arena, plain, v)
		if e != api.OK || e2 != api.OK {
			continue
		}
		isProper(t, w.Arena, id, got)
		for range 3 {
			vals := d.values()
			is := w.holds(id, vals)
			if w.holds(got, vals) != is || kind == api.Some && w.holds(other, vals) != is {
				t.Fatalf("of %d: %d, %d, under %s: %v, but not so, in\n%s", id, got, other, vals, is, short(tellArena(w.Arena)))
			}
			if is {
				told[0]++
			} else {
				told[1]++
			}
		}
	}
	if min(told[0], told[1]) < drawn/16 {
		t.Errorf("true and false %v times", told)
	}
}

// Sentences that are known: order without an end and without gaps of more than 1, remainders, sums.
func TestP163Sentences(t *testing.T) {
	equal := func(k int, parts ...api.Part) form {
		var turned []api.Part
		for _, q := range parts {
			turned = append(turned, api.Part{Var: q.Var, C: opposite(q.C)})
		}
		return and(less(k+1, parts...), less(1-k, turned...))
	}
	for row, l := range []struct {
		of   form
		want int
	}{
		// There is no greatest one, and no least one.
		{all(0, some(1, xy(-1, 1, 0))), 1}, {some(0, all(1, xy(1, -1, 1))), 0}, {some(0, all(1, xy(-1, 1, 1))), 0}, {all(0, some(1, xy(1, -1, 0))), 1},
		// Between two there is one just if they are 2 apart or more.
		{all(1, all(2, or(yz(1, -1, 1), some(0, gap(0))))), 0}, {all(1, all(2, or(yz(1, -1, 2), some(0, gap(0))))), 1}, {some(1, all(2, some(0, gap(0)))), 0}, {all(1, some(2, some(0, gap(0)))), 1},
		// Each one is even or odd, none is both; of three one behind the other 3 divides one.
		{all(0, or(some(1, equal(0, p(0, 1), p(1, -2))), some(1, equal(1, p(0, 1), p(1, -2))))), 1}, {some(0, and(some(1, equal(0, p(0, 1), p(1, -2))), some(1, equal(1, p(0, 1), p(1, -2))))), 0},
		{all(0, or(div(3, 0, p(0, 1)), div(3, 1, p(0, 1)), div(3, 2, p(0, 1)))), 1}, {all(0, or(div(3, 0, p(0, 1)), div(3, 1, p(0, 1)))), 0}, {some(0, and(div(4, 1, p(0, 1)), div(6, 0, p(0, 1)))), 0}, {some(0, and(div(4, 2, p(0, 1)), div(6, 0, p(0, 1)))), 1},
		// Sums: 3 x + 5 y is each number, 2 x + 4 y each even one.
		{some(0, some(1, equal(-1, p(0, 3), p(1, 5)))), 1}, {some(0, some(1, equal(-1, p(0, 2), p(1, 4)))), 0}, {all(2, some(0, some(1, equal(0, p(0, 3), p(1, 5), p(2, -1))))), 1}, {all(2, or(not(2, 0, p(2, 1)), some(0, some(1, equal(0, p(0, 2), p(1, 4), p(2, -1)))))), 1},
		// With 2 and 3, none below 0, each number above 1 can be made; 1 can't.
		{all(2, or(less(2, p(2, -1)), some(0, some(1, and(x(1, 1), y(1, 1), equal(0, p(0, 2), p(1, 3), p(2, -1))))))), 1}, {all(2, or(less(1, p(2, -1)), some(0, some(1, and(x(1, 1), y(1, 1), equal(0, p(0, 2), p(1, 3), p(2, -1))))))), 0},
	} {
		a := arena.New(nil)
		id := l.of(a)
		if got := runOf().answer(a, id, 0); got.id != l.want || got.e != api.OK {
			t.Errorf("row %d: %s, want %d", row, short(got.String()), l.want)
		}
	}
}

// Of a plain formula Run is simp.Again of it, node by node, also where the meter ends it; no steps.
func TestP163Plain(t *testing.T) {
	d := &dice{state: 165}
	plain, changed, stopped := 0, 0, 0
	for range drawn {
		a, b := twins(t, d, 12+d.roll(20), 2)
		for id := range min(a.Len(), b.Len()) {
			if !a.Plain(id) {
				continue
			}
			got := runOf().answer(a, id, 0)
			want := answer{}
			want.id, want.e = simp.Again(b, id)
			if got.String() != want.String() || tellArena(a) != tellArena(b) {
				t.Fatalf("Run of %d: %s, want %s, in\n%s\nwant\n%s", id, got, want, short(tellArena(a)), short(tellArena(b)))
			}
			plain++
			if got.id != id {
				changed++
			}
			if got.e != api.OK {
				stopped++
			}
		}
	}
	if plain < drawn || changed < drawn/2 || stopped < drawn/10 {
		t.Errorf("%d plain ones, %d came to others, %d stopped", plain, changed, stopped)
	}
}
