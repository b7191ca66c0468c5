package unit_test

import (
	"slices"
	"strconv"
	"strings"
	"testing"

	"riddle/api"
	"riddle/arena"
	"riddle/unit"
	"riddle/zint"
)

// values are those of variables; a variable without one counts as 0.
type values map[int]api.Int

// with is the same, but for one variable.
func (v values) with(x int, value api.Int) values {
	changed := values{x: value}
	for other, value := range v {
		if other != x {
			changed[other] = value
		}
	}
	return changed
}

func (v values) String() string {
	var texts []string
	for x, value := range v {
		texts = append(texts, "v"+strconv.Itoa(x)+" is "+tellInt(value))
	}
	slices.Sort(texts)
	return strings.Join(texts, ", ")
}

// holds tells whether a plain formula is true under values, however great: an atom by what it says, word by word.
func holds(a *arena.Arena, id int, v values) bool {
	known := make([]bool, id+1)
	for _, other := range a.Reach(id) {
		node := whole(a, other)
		isSo := func(kid int) bool { return known[kid] }
		isNot := func(kid int) bool { return !known[kid] }
		switch node.Kind {
		case api.And:
			known[other] = !slices.ContainsFunc(node.Kids, isNot)
		case api.Or:
			known[other] = slices.ContainsFunc(node.Kids, isSo)
		case api.True:
			known[other] = true
		case api.Less:
			known[other] = zint.Sign(v.worth(node.T)) > 0
		case api.Div, api.Not:
			_, left, _ := zint.DivMod(v.worth(node.T), node.D)
			known[other] = (zint.Sign(left) == 0) == (node.Kind == api.Div)
		}
	}
	return known[id]
}

func (v values) worth(t api.Term) api.Int {
	k := t.K
	for _, q := range t.Parts {
		k = zint.Add(k, zint.Mul(q.C, v[q.Var]))
	}
	return k
}

func (d *dice) values(limbs int) values {
	v := values{}
	for _, x := range variables() {
		v[x] = zint.Mul(d.number(limbs), n(1+d.roll(3)))
	}
	return v
}

// A tally counts how often something was true and false.
type tally [2]int

func (c *tally) count(is bool) {
	if is {
		c[0]++
	} else {
		c[1]++
	}
}

// wants fails unless both were often enough.
func (c *tally) wants(t *testing.T, often int) {
	t.Helper()
	if min(c[0], c[1]) < often {
		t.Errorf("true and false %v times", *c)
	}
}

// What Unit answers is true with so many times L just where the formula is true with so many; with what is not so many
// times L it is false. Values are below 0, 0 and above it.
func TestP133IsTrue(t *testing.T) {
	for _, d := range []*dice{{state: 132, small: true}, {state: 133}} {
		var multiples, signs tally
		between, noughts := 0, 0
		for range drawn {
			a := grown(t, d, 2000, 8)
			q := d.asking(a)
			got, l, e := unit.Unit(a, q.id, q.v)
			if e != api.OK {
				continue
			}
			for range 12 {
				v := d.values(2)
				k := v[q.v]
				is := holds(a, q.id, v)
				if holds(a, got, v.with(q.v, zint.Mul(k, l))) != is {
					t.Fatalf("%s: %d, L %s; under %s the formula is %v, in\n%s", q, got, tellInt(l), v, is, short(tellArena(a)))
				}
				_, left, _ := zint.DivMod(k, l)
				if zint.Sign(left) != 0 {
					between++
					if holds(a, got, v) {
						t.Fatalf("%s: %d, L %s; it is true under %s, in\n%s", q, got, tellInt(l), v, short(tellArena(a)))
					}
				}
				if isInt(l, n(1)) {
					continue
				}
				multiples.count(is)
				if zint.Sign(k) == 0 {
					noughts++
				} else {
					signs.count(k.Neg)
				}
			}
		}
		multiples.wants(t, drawn)
		signs.wants(t, drawn)
		if min(between, noughts) < drawn/4 {
			t.Errorf("%d values between multiples, %d times 0", between, noughts)
		}
	}
}

// Each value of a whole stretch is true or false as it should be: so Some v of the one is true just where Some v of the
// other is.
func TestP133AllOfAStretch(t *testing.T) {
	const far = 12
	d := &dice{state: 134, small: true}
	var some tally
	for range drawn / 2 {
		a := grown(t, d, 2000, 8)
		q := d.asking(a)
		got, l, e := unit.Unit(a, q.id, q.v)
		step, is := zint.Int64(l)
		if e != api.OK || !is || step > 60 {
			continue
		}
		v := d.values(1)
		var has, came bool
		for k := -far * int(step); k <= far*int(step); k++ {
			want := k%int(step) == 0 && holds(a, q.id, v.with(q.v, n(k/int(step))))
			is := holds(a, got, v.with(q.v, n(k)))
			if is != want {
				t.Fatalf("%s: %d, L %d; with %d beside %s it is %v, in\n%s", q, got, step, k, v, is, short(tellArena(a)))
			}
			came = came || is
		}
		for k := -far; k <= far; k++ {
			has = has || holds(a, q.id, v.with(q.v, n(k)))
		}
		if has != came {
			t.Fatalf("%s: %d, L %d; there is one: %v, and there is one: %v, in\n%s", q, got, step, has, came, short(tellArena(a)))
		}
		if step > 1 {
			some.count(has)
		}
	}
	some.wants(t, drawn/40)
}

// coefs are a variable's coefficients in a formula's atoms of these kinds.
func coefs(a *arena.Arena, id, v int, kinds ...int) []api.Int {
	var l []api.Int
	for _, other := range a.Reach(id) {
		node := whole(a, other)
		if c := partOf(node.T, v); slices.Contains(kinds, node.Kind) && zint.Sign(c) != 0 {
			l = append(l, c)
		}
	}
	return l
}

// In each Less of what Unit answers the variable's coefficient is 1 or -1; no quantifier is there, and no variable that
// the formula doesn't have.
func TestP133Coefficients(t *testing.T) {
	d := &dice{state: 135}
	ups, downs := 0, 0
	for range drawn {
		a := grown(t, d, 2000, 8)
		for range 4 {
			q := d.asking(a)
			got, l, e := unit.Unit(a, q.id, q.v)
			if e != api.OK {
				continue
			}
			for _, c := range coefs(a, got, q.v, api.Less) {
				switch {
				case !isInt(zint.Abs(c), n(1)):
					t.Fatalf("%s: %d has the coefficient %s, in\n%s", q, got, tellInt(c), short(tellArena(a)))
				case isInt(l, n(1)):
				case c.Neg:
					downs++
				default:
					ups++
				}
			}
			was := a.Free(q.id)
			if !a.Plain(got) || slices.ContainsFunc(a.Free(got), func(v int) bool { return !slices.Contains(was, v) }) {
				t.Fatalf("%s: %d, in\n%s", q, got, short(tellArena(a)))
			}
		}
	}
	if min(ups, downs) < drawn/4 {
		t.Errorf("1 %d times, -1 %d times", ups, downs)
	}
}

// L is above 0, and each coefficient divides it; it is the least such number: what is left of it by each of them has
// nothing in common. Unit tells the same L.
func TestP134L(t *testing.T) {
	d := &dice{state: 136}
	above, great := 0, 0
	for range drawn {
		a := grown(t, d, 2000, 8)
		for range 4 {
			q := d.asking(a)
			l, e := unit.Lcm(a, q.id, q.v)
			if e != api.OK {
				continue
			}
			all := coefs(a, q.id, q.v, api.Less, api.Div, api.Not)
			lefts := []api.Int{}
			for _, c := range all {
				times, left, _ := zint.DivMod(l, c)
				if zint.Sign(left) != 0 {
					t.Fatalf("%s: %s doesn't divide %s", q, tellInt(c), tellInt(l))
				}
				lefts = append(lefts, times)
			}
			if len(all) == 0 {
				lefts = append(lefts, l)
			}
			if zint.Sign(l) <= 0 || !zint.Valid(l) || !isInt(zint.Gcd(lefts...), n(1)) {
				t.Fatalf("%s: %s, in\n%s", q, tellInt(l), short(tellArena(a)))
			}
			if _, told, e := unit.Unit(a, q.id, q.v); e == api.OK && !isInt(told, l) {
				t.Fatalf("%s: Lcm is %s, Unit tells %s", q, tellInt(l), tellInt(told))
			}
			if !isInt(l, n(1)) {
				above++
			}
			if zint.Limbs(l) > 1 {
				great++
			}
		}
	}
	if min(above, 10*great) < drawn/2 {
		t.Errorf("%d above 1, %d great", above, great)
	}
}

// Of small coefficients L is found by counting up.
func TestP134Counted(t *testing.T) {
	d := &dice{state: 137, small: true}
	seen := map[int]int{}
	for range drawn {
		a := grown(t, d, 2000, 8)
		q := d.asking(a)
		l, e := unit.Lcm(a, q.id, q.v)
		if e != api.OK {
			continue
		}
		want := 1
		for slices.ContainsFunc(coefs(a, q.id, q.v, api.Less, api.Div, api.Not), func(c api.Int) bool { return want%int(c.Mag[0]) != 0 }) {
			want++
		}
		if !isInt(l, n(want)) {
			t.Fatalf("%s: %s, want %d, in\n%s", q, tellInt(l), want, short(tellArena(a)))
		}
		seen[want]++
	}
	if len(seen) < 15 || seen[1] < 100 {
		t.Errorf("seen: %v", seen)
	}
}

// Lcm of what Unit answers, looked at in its Less alone, is 1; a formula of these alone is brought to itself.
func TestP134Again(t *testing.T) {
	d := &dice{state: 138}
	above := 0
	for range drawn {
		a := grown(t, d, 2000, 8)
		q := d.asking(a)
		got, l, e := unit.Unit(a, q.id, q.v)
		if e != api.OK {
			continue
		}
		var ids []int
		for _, other := range a.Reach(got) {
			if whole(a, other).Kind == api.Less {
				ids = append(ids, other)
			}
		}
		alone := laid(a.Join(api.Or, ids...))
		if again, e := unit.Lcm(a, alone, q.v); !isInt(again, n(1)) || e != api.OK {
			t.Fatalf("%s: %d; its Less have the L %s, %v, in\n%s", q, got, tellInt(again), e, short(tellArena(a)))
		}
		for _, id := range ids {
			if same, again, e := unit.Unit(a, id, q.v); same != id || !isInt(again, n(1)) || e != api.OK {
				t.Fatalf("%s: %d; Unit of %d is %d, %s, %v, in\n%s", q, got, id, same, tellInt(again), e, short(tellArena(a)))
			}
		}
		if !isInt(l, n(1)) && len(ids) > 0 {
			above++
		}
	}
	if above < drawn/8 {
		t.Errorf("%d with an L above 1", above)
	}
}
