package ground_test

import (
	"slices"
	"testing"

	"riddle/api"
	"riddle/arena"
	"riddle/ground"
	"riddle/simp"
	"riddle/subst"
)

// A tally counts how often something was true and false.
type tally [2]int

func (c *tally) count(is bool) {
	if is {
		c[0]++
	} else {
		c[1]++
	}
}

// wants fails unless both were often enough.
func (c *tally) wants(t *testing.T, often int) {
	t.Helper()
	if min(c[0], c[1]) < often {
		t.Errorf("true and false %v times", *c)
	}
}

// fullRow draws a value for each variable, of some several, with others among them.
func (d *dice) fullRow(limbs int) []api.Value {
	vals := d.row(limbs)
	for _, v := range variables() {
		if _, is := first(vals, v); !is {
			vals = append(vals, bigVal(v, d.raw(limbs)))
		}
	}
	return vals
}

// plains calls f with arenas that are drawn, and with a plain formula of them.
func plains(t *testing.T, d *dice, f func(a *arena.Arena, id int)) {
	t.Helper()
	for range drawn {
		a := grown(t, d, 2000, 8)
		if id := d.plain(a); a.Meter().Over() == api.OK {
			f(a, id)
		}
	}
}

// plain draws a formula without quantifiers.
func (d *dice) plain(a *arena.Arena) int {
	for {
		if id := d.among(a.Len()); a.Plain(id) {
			return id
		}
	}
}

// evaluated is what Eval says of a formula all of whose variables have values.
func evaluated(t *testing.T, a *arena.Arena, id int, vals []api.Value) bool {
	t.Helper()
	is, e := ground.Eval(a, id, vals)
	if e != api.OK {
		t.Fatalf("Eval of %d, %s: %v, in\n%s", id, tellRow(vals), e, tellArena(a))
	}
	return is
}

// Eval of simp.Negate is the opposite, and of its opposite again the same; of simp.Again it is the same.
func TestP173Negate(t *testing.T) {
	d := &dice{state: 173}
	var seen tally
	plains(t, d, func(a *arena.Arena, id int) {
		again, e := simp.Again(a, id)
		opposite, e2 := simp.Negate(a, id)
		if e != api.OK || e2 != api.OK {
			// 1 less a number that is as great as may be has a limb too many.
			return
		}
		back, e := simp.Negate(a, opposite)
		if e != api.OK {
			return
		}
		for range 8 {
			vals := d.fullRow(12)
			is := evaluated(t, a, id, vals)
			if evaluated(t, a, opposite, vals) == is || evaluated(t, a, back, vals) != is || evaluated(t, a, again, vals) != is {
				t.Fatalf("of %d, %s: %v; the opposite %d, of that %d, again %d, in\n%s", id, tellRow(vals), is, opposite, back, again, tellArena(a))
			}
			if id > 1 {
				seen.count(is)
			}
		}
	})
	seen.wants(t, drawn)
}

// Eval of simp.And is whether all say so, of simp.Or whether one does: of none, of one, of two and of many.
func TestP173AndOr(t *testing.T) {
	d := &dice{state: 174}
	var ands, ors tally
	plains(t, d, func(a *arena.Arena, id int) {
		ids := []int{id}
		for range d.roll(5) {
			ids = append(ids, d.plain(a))
		}
		ids = ids[d.roll(2):]
		both, either := laid(simp.And(a, ids...)), laid(simp.Or(a, ids...))
		for range 8 {
			vals := d.fullRow(12)
			isSo := func(id int) bool { return evaluated(t, a, id, vals) }
			isNot := func(id int) bool { return !isSo(id) }
			all, one := !slices.ContainsFunc(ids, isNot), slices.ContainsFunc(ids, isSo)
			if isSo(both) != all || isSo(either) != one {
				t.Fatalf("of %v, %s: %d is %v, %d is %v, in\n%s", ids, tellRow(vals), both, isSo(both), either, isSo(either), tellArena(a))
			}
			if len(ids) > 1 {
				ands.count(all)
				ors.count(one)
			}
		}
	})
	ands.wants(t, drawn)
	ors.wants(t, drawn)
}

// Eval of subst.Instance with some of the values is what it is with all: whether the others are given alone, or all of them
// again, or yet other values of those that are gone.
func TestP173Instance(t *testing.T) {
	d := &dice{state: 175}
	var seen, changed tally
	plains(t, d, func(a *arena.Arena, id int) {
		vals := d.fullRow(2)
		some := vals[:d.roll(len(vals)+1)]
		rest := slices.DeleteFunc(slices.Clone(vals), func(value api.Value) bool {
			_, is := first(some, value.Var)
			return is
		})
		given, e := subst.Instance(a, id, some)
		if e != api.OK {
			return
		}
		is := evaluated(t, a, id, vals)
		for _, left := range rows(vals, rest, slices.Concat(rest, d.fullRow(9)), vals[len(some):]) {
			if evaluated(t, a, given, left) != is {
				t.Fatalf("of %d, %s: %v; of %d, %s, it isn't, in\n%s", id, tellRow(vals), is, given, tellRow(left), tellArena(a))
			}
		}
		seen.count(is)
		if given != id && given > 1 {
			changed.count(is)
		}
	})
	seen.wants(t, drawn/4)
	changed.wants(t, drawn/20)
}

// Instance with all values is the constant that Eval says, where nothing is left in the formula that could be simpler.
func TestP173InstanceWithAll(t *testing.T) {
	d := &dice{state: 176}
	var seen tally
	plains(t, d, func(a *arena.Arena, id int) {
		vals := d.fullRow(2)
		given, e := subst.Instance(a, laid(simp.Again(a, id)), vals)
		if e != api.OK {
			return
		}
		is := evaluated(t, a, id, vals)
		if given > 1 || is != (given == 1) {
			t.Fatalf("of %d, %s: %v, Instance %d, in\n%s", id, tellRow(vals), is, given, tellArena(a))
		}
		seen.count(is)
	})
	seen.wants(t, drawn/4)
}

// Of an opposite Count is the number of rows less it.
func TestP173CountOfAnOpposite(t *testing.T) {
	d := &dice{state: 177}
	none, several := 0, 0
	plains(t, d, func(a *arena.Arena, id int) {
		opposite, e := simp.Negate(a, id)
		if e != api.OK {
			return
		}
		var l [][]api.Value
		for range d.roll(12) {
			l = append(l, d.fullRow(12))
		}
		count, e := ground.Count(a, id, l)
		other, e2 := ground.Count(a, opposite, l)
		if e != api.OK || e2 != api.OK || other != len(l)-count {
			t.Fatalf("of %d: %d, %v, of the opposite %d: %d, %v, of %d rows, in\n%s", id, count, e, opposite, other, e2, len(l), tellArena(a))
		}
		if len(l) == 0 {
			none++
		}
		if count > 1 && other > 1 {
			several++
		}
	})
	if none < drawn/50 || several < drawn/10 {
		t.Errorf("%d without rows, %d with several of both", none, several)
	}
}

// By hand: the opposite, what both say, and the rest of the values.
func TestP173ByHand(t *testing.T) {
	a := arena.New(nil)
	f, g := and(xy(1, -1, 0), div(2, 0, p(0, 1)))(a), y(1, 0)(a)
	not, both, either, given := laid(simp.Negate(a, f)), laid(simp.And(a, f, g)), laid(simp.Or(a, f, g)), laid(subst.Instance(a, f, at(4)))
	l := rows(at(4, 3), at(4, -3), at(4, 4), at(4, 5), at(4, 0))
	for i, vals := range l {
		truth(t, a, f, vals, i == 0 || i == 1 || i == 4, api.OK)
		truth(t, a, not, vals, i == 2 || i == 3, api.OK)
		truth(t, a, both, vals, i == 0, api.OK)
		truth(t, a, either, vals, true, api.OK)
		truth(t, a, given, vals[1:], i == 0 || i == 1 || i == 4, api.OK)
	}
	counts(t, a, f, l, 3, api.OK)
	counts(t, a, not, l, 2, api.OK)
}
