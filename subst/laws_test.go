package subst_test

import (
	"slices"
	"testing"

	"riddle/api"
	"riddle/arena"
	"riddle/atom"
	"riddle/simp"
	"riddle/subst"
	"riddle/zint"
)

// values are those of the variables 0, 1 and 2.
type values [3]int

func (v values) list() []api.Value {
	var l []api.Value
	for of, value := range v {
		l = append(l, val(of, value))
	}
	return l
}

func (d *dice) values() values {
	return values{d.roll(9) - 4, d.roll(9) - 4, d.roll(9) - 4}
}

// small is a small number as one of Go's.
func small(a api.Int) int {
	k := 0
	for _, limb := range a.Mag {
		k += int(limb)
	}
	if a.Neg {
		return -k
	}
	return k
}

// worth is a small term's value.
func (v values) worth(t api.Term) int {
	k := small(t.K)
	for _, q := range t.Parts {
		k += small(q.C) * v[q.Var]
	}
	return k
}

// truth tells of formulas whether they are true. Quantifiers go over a few integers alone: where nothing is caught, terms
// may be put in there just as where they go over all.
type truth struct {
	a     *arena.Arena
	known map[int]map[values]bool
}

func truthOf(a *arena.Arena) truth { return truth{a, map[int]map[values]bool{}} }

func (u truth) is(id int, v values) bool {
	if known, is := u.known[id][v]; is {
		return known
	}
	if u.known[id] == nil {
		u.known[id] = map[values]bool{}
	}
	u.known[id][v] = u.look(id, v)
	return u.known[id][v]
}

func (u truth) look(id int, v values) bool {
	node := whole(u.a, id)
	isSo := func(kid int) bool { return u.is(kid, v) }
	isNot := func(kid int) bool { return !u.is(kid, v) }
	withIt := func(value int) bool {
		bound := v
		bound[node.Var] = value
		return u.is(node.Kids[0], bound)
	}
	few := []int{-2, -1, 0, 1, 3}
	switch node.Kind {
	case api.And:
		return !slices.ContainsFunc(node.Kids, isNot)
	case api.Or:
		return slices.ContainsFunc(node.Kids, isSo)
	case api.Some:
		return slices.ContainsFunc(few, withIt)
	case api.All:
		return !slices.ContainsFunc(few, func(value int) bool { return !withIt(value) })
	}
	is, e := atom.Holds(api.Atom{Kind: node.Kind, D: node.D, T: node.T}, v.list())
	return is && e == api.OK
}

// A tally counts how often something was true and false.
type tally [2]int

func (c *tally) count(is bool) {
	if is {
		c[0]++
	} else {
		c[1]++
	}
}

// wants fails unless both were often enough.
func (c *tally) wants(t *testing.T, often int) {
	t.Helper()
	if min(c[0], c[1]) < often {
		t.Errorf("true and false %v times", *c)
	}
}

// What Put answers is true under values just where the formula is under the same, with the term's value for the variable.
func TestP124PutIsTrue(t *testing.T) {
	d := &dice{state: 122, small: true}
	var free, plain tally
	for range drawn {
		a := grown(t, d, 2000, 8)
		for range 4 {
			q := d.asking(a, 8)
			got, e := subst.Put(a, q.id, q.v, q.t)
			if e != api.OK {
				continue
			}
			u, changed := truthOf(a), got != q.id
			for range 15 {
				v := d.values()
				with := v
				with[q.v] = v.worth(q.t)
				is := u.is(got, v)
				if is != u.is(q.id, with) {
					t.Fatalf("%s: %d is %v under %v, and not so under %v, in\n%s", q, got, is, v, with, short(tellArena(a)))
				}
				if changed {
					free.count(is)
				}
				if changed && a.Plain(q.id) {
					plain.count(is)
				}
			}
		}
	}
	free.wants(t, 2*drawn)
	plain.wants(t, drawn)
}

// What Instance answers is true under values just where the formula is under the given ones, and those.
func TestP124InstanceIsTrue(t *testing.T) {
	d := &dice{state: 123, small: true}
	var changed tally
	for range drawn {
		a := grown(t, d, 2000, 8)
		for range 4 {
			q := d.asking(a, 8)
			got, e := subst.Instance(a, q.id, q.vals)
			if e != api.OK {
				continue
			}
			u := truthOf(a)
			for range 15 {
				v := d.values()
				with := v
				for _, value := range slices.Backward(q.vals) {
					with[value.Var] = small(value.N)
				}
				is := u.is(got, v)
				if is != u.is(q.id, with) {
					t.Fatalf("%s: %d is %v under %v, and not so under %v, in\n%s", q, got, is, v, with, short(tellArena(a)))
				}
				if got != q.id {
					changed.count(is)
				}
			}
		}
	}
	changed.wants(t, 2*drawn)
}

// holds tells whether a plain formula is true under values, however great.
func holds(a *arena.Arena, id int, vals []api.Value) bool {
	var known []bool
	for other := range id + 1 {
		node := whole(a, other)
		isSo := func(kid int) bool { return known[kid] }
		isNot := func(kid int) bool { return !known[kid] }
		var is bool
		switch node.Kind {
		case api.And:
			is = !slices.ContainsFunc(node.Kids, isNot)
		case api.Or:
			is = slices.ContainsFunc(node.Kids, isSo)
		case api.Some, api.All:
			// Of those that are not plain nothing is asked.
		default:
			is, _ = atom.Holds(api.Atom{Kind: node.Kind, D: node.D, T: node.T}, vals)
		}
		known = append(known, is)
	}
	return known[id]
}

func worth(t api.Term, vals []api.Value) api.Int {
	k := t.K
	for _, q := range t.Parts {
		for _, value := range vals {
			if value.Var == q.Var {
				k = zint.Add(k, zint.Mul(q.C, value.N))
				break
			}
		}
	}
	return k
}

// Likewise with great numbers, and variables of any number, where no quantifier is.
func TestP124GreatNumbers(t *testing.T) {
	d := &dice{state: 124}
	var puts, instances tally
	for range drawn {
		a := grown(t, d, 2000, 8)
		for range 4 {
			q := d.asking(a, 2)
			if !a.Plain(q.id) {
				continue
			}
			var vals []api.Value
			for _, v := range variables() {
				vals = append(vals, api.Value{Var: v, N: d.raw(2)})
			}
			put, e := subst.Put(a, q.id, q.v, q.t)
			given, e2 := subst.Instance(a, q.id, q.vals)
			if e == api.ErrLimbs || e2 == api.ErrLimbs {
				// The meter is over.
				break
			}
			with := append([]api.Value{{Var: q.v, N: worth(q.t, vals)}}, vals...)
			is := holds(a, put, vals)
			if e != api.OK || is != holds(a, q.id, with) {
				t.Fatalf("%s, %v: %d is %v under %s, in\n%s", q, e, put, is, tellValues(vals), short(tellArena(a)))
			}
			isGiven := holds(a, given, vals)
			if e2 != api.OK || isGiven != holds(a, q.id, slices.Concat(q.vals, vals)) {
				t.Fatalf("%s of %d, %v: %d is %v under %s, in\n%s", tellValues(q.vals), q.id, e2, given, isGiven, tellValues(vals), short(tellArena(a)))
			}
			if put != q.id {
				puts.count(is)
			}
			if given != q.id {
				instances.count(isGiven)
			}
		}
	}
	puts.wants(t, drawn/20)
	instances.wants(t, drawn/20)
}

// The variable is not free in what Put answers, unless the term has it; nothing is free that was free in neither; what
// is plain stays plain.
func TestP124WhatIsFree(t *testing.T) {
	d := &dice{state: 125}
	itself, gone := 0, 0
	for range drawn {
		a := grown(t, d, 2000, 8)
		for range 4 {
			q := d.asking(a, 2)
			got, e := subst.Put(a, q.id, q.v, q.t)
			if e != api.OK {
				continue
			}
			was, free := a.Free(q.id), a.Free(got)
			if slices.Contains(free, q.v) && !has(q.t, q.v) {
				t.Fatalf("%s: v%d is free in %d, in\n%s", q, q.v, got, short(tellArena(a)))
			}
			if slices.ContainsFunc(free, func(v int) bool { return !slices.Contains(was, v) && !has(q.t, v) }) || a.Plain(q.id) && !a.Plain(got) {
				t.Fatalf("%s: %d, in\n%s", q, got, short(tellArena(a)))
			}
			if slices.Contains(was, q.v) {
				gone++
				if slices.Contains(free, q.v) {
					itself++
				}
			}
			given, e := subst.Instance(a, q.id, q.vals)
			if e == api.OK && slices.ContainsFunc(q.vals, func(value api.Value) bool { return slices.Contains(a.Free(given), value.Var) }) {
				t.Fatalf("%s of %d: %d, in\n%s", tellValues(q.vals), q.id, given, short(tellArena(a)))
			}
		}
	}
	if itself < drawn/20 || gone-itself < drawn/4 {
		t.Errorf("%d times was it gone, %d times there again", gone-itself, itself)
	}
}

// twins are two arenas with the same formulas.
func twins(t *testing.T, d *dice, nodes, limbs int) (*arena.Arena, *arena.Arena) {
	t.Helper()
	twin := *d
	return grown(t, d, nodes, limbs), grown(t, &twin, nodes, limbs)
}

// Put of a constant is Instance of one value, in what is answered and in what is made.
func TestP124PutOfAConstant(t *testing.T) {
	d := &dice{state: 126}
	changed, refused := 0, 0
	for range drawn {
		a, b := twins(t, d, 10+d.roll(30), 1+d.roll(2))
		for range 3 {
			q := d.asking(a, 2)
			k := d.raw(2)
			got, e := subst.Put(a, q.id, q.v, api.Term{Parts: []api.Part{{Var: q.v, C: n(3)}, {Var: q.v, C: n(-3)}}, K: k})
			given, e2 := subst.Instance(b, q.id, []api.Value{{Var: q.v, N: k}})
			if got != given || e != e2 || tellArena(a) != tellArena(b) {
				t.Fatalf("%s, %s: %d, %v, and %d, %v, in\n%s\nand\n%s", q, tellInt(k), got, e, given, e2, tellArena(a), tellArena(b))
			}
			if e == api.OK && got != q.id {
				changed++
			}
			if e != api.OK {
				refused++
			}
		}
	}
	if min(changed, refused) < drawn/10 {
		t.Errorf("%d changed, %d refused", changed, refused)
	}
}

// Map by what leaves each atom is simp.Again, in what is answered and in what is made.
func TestP124MapByWhatLeavesAtoms(t *testing.T) {
	d := &dice{state: 127}
	itself, changed, refused := 0, 0, 0
	for range drawn {
		a, b := twins(t, d, 10+d.roll(20), 1+d.roll(2))
		for id := range a.Len() {
			if !a.Plain(id) {
				continue
			}
			got, e := subst.Map(a, id, same)
			again, e2 := simp.Again(b, id)
			if got != again || e != e2 || tellArena(a) != tellArena(b) {
				t.Fatalf("of %d: %d, %v, and %d, %v, in\n%s\nand\n%s", id, got, e, again, e2, tellArena(a), tellArena(b))
			}
			switch {
			case e != api.OK:
				refused++
			case got == id:
				itself++
			default:
				changed++
			}
		}
	}
	if min(itself, changed) < drawn || refused < 10 {
		t.Errorf("%d are themselves, %d changed, %d refused", itself, changed, refused)
	}
}

// Map by what puts a term into each atom is true where Put is.
func TestP124MapIsTrue(t *testing.T) {
	d := &dice{state: 128, small: true}
	var seen tally
	for range drawn {
		a := grown(t, d, 2000, 8)
		q := d.asking(a, 8)
		got, e := subst.Map(a, q.id, func(x api.Atom) api.Atom { return atom.Put(x, q.v, q.t) })
		if e != api.OK {
			continue
		}
		u := truthOf(a)
		for range 15 {
			v := d.values()
			with := v
			with[q.v] = v.worth(q.t)
			is := u.is(got, v)
			if is != u.is(q.id, with) {
				t.Fatalf("%s: %d is %v under %v, in\n%s", q, got, is, v, short(tellArena(a)))
			}
			seen.count(is)
		}
	}
	seen.wants(t, drawn)
}
