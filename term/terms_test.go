package term_test

import (
	"math"
	"slices"
	"strconv"
	"strings"
	"testing"

	"riddle/api"
	"riddle/term"
	"riddle/zint"
)

const (
	top   = 1<<32 - 1
	least = math.MinInt
	most  = math.MaxInt
)

// Numbers, parts and terms are made here by short calls, as they stand or not.

func above(limbs ...uint32) api.Int { return api.Int{Mag: limbs} }

func below(limbs ...uint32) api.Int { return api.Int{Neg: true, Mag: limbs} }

// n is a small number, made without the layer below.
func n(k int32) api.Int {
	switch {
	case k == 0:
		return api.Int{}
	case k < 0:
		return below(uint32(-int64(k)))
	}
	return above(uint32(k))
}

func p(v int, c int32) api.Part { return api.Part{Var: v, C: n(c)} }

func big(v int, c api.Int) api.Part { return api.Part{Var: v, C: c} }

func of(k int32, parts ...api.Part) api.Term { return api.Term{Parts: parts, K: n(k)} }

func value(v int, k int32) api.Value { return api.Value{Var: v, N: n(k)} }

// tellInt is a number as it stands, limb by limb, so that what differs in anything is told otherwise.
func tellInt(a api.Int) string {
	var b strings.Builder
	if a.Neg {
		b.WriteString("-")
	}
	for _, limb := range a.Mag {
		b.WriteString("'" + strconv.FormatUint(uint64(limb), 10))
	}
	return b.String()
}

// tell is a term as it stands, part by part.
func tell(t api.Term) string {
	var b strings.Builder
	for _, q := range t.Parts {
		b.WriteString(tellInt(q.C) + " v" + strconv.Itoa(q.Var) + " + ")
	}
	return b.String() + tellInt(t.K)
}

func tellValues(vals []api.Value) string {
	var b strings.Builder
	for _, value := range vals {
		b.WriteString("v" + strconv.Itoa(value.Var) + " is " + tellInt(value.N) + ", ")
	}
	return b.String()
}

// wantTerm fails unless a term is, limb by limb, the one that is wanted: so that it also stands as it should, if that one does.
func wantTerm(t *testing.T, call string, got, want api.Term) {
	t.Helper()
	if tell(got) != tell(want) {
		t.Errorf("%s: %s, want %s", call, tell(got), tell(want))
	}
}

func wantInt(t *testing.T, call string, got, want api.Int) {
	t.Helper()
	if tellInt(got) != tellInt(want) {
		t.Errorf("%s: %s, want %s", call, tellInt(got), tellInt(want))
	}
}

// What the package's calls answer is reckoned here a second time: on lists, without maps and without sorting, and on no
// other call of the package.

func plain(a api.Int) api.Int {
	for len(a.Mag) > 0 && a.Mag[len(a.Mag)-1] == 0 {
		a.Mag = a.Mag[:len(a.Mag)-1]
	}
	a.Neg = a.Neg && len(a.Mag) > 0
	return a
}

func slowCoef(t api.Term, v int) api.Int {
	var positive, negative api.Int
	for _, q := range t.Parts {
		if q.Var == v && q.C.Neg {
			negative = zint.Add(negative, above(q.C.Mag...))
		} else if q.Var == v {
			positive = zint.Add(positive, q.C)
		}
	}
	return zint.Sub(positive, negative)
}

// slowVars takes the least variable above the last one, again and again.
func slowVars(t api.Term) []int {
	var vars []int
	for {
		next, found := 0, false
		for _, q := range t.Parts {
			isLater := len(vars) == 0 || q.Var > vars[len(vars)-1]
			if isLater && (!found || q.Var < next) && len(slowCoef(t, q.Var).Mag) > 0 {
				next, found = q.Var, true
			}
		}
		if !found {
			return vars
		}
		vars = append(vars, next)
	}
}

func slowNorm(t api.Term) api.Term {
	var parts []api.Part
	for _, v := range slowVars(t) {
		parts = append(parts, api.Part{Var: v, C: slowCoef(t, v)})
	}
	return api.Term{Parts: parts, K: plain(t.K)}
}

func slowAdd(a, b api.Term) api.Term {
	return slowNorm(api.Term{Parts: slices.Concat(b.Parts, a.Parts), K: zint.Add(b.K, a.K)})
}

func slowScale(k api.Int, t api.Term) api.Term {
	var parts []api.Part
	for _, q := range t.Parts {
		parts = append(parts, api.Part{Var: q.Var, C: zint.Mul(q.C, k)})
	}
	return slowNorm(api.Term{Parts: parts, K: zint.Mul(t.K, k)})
}

func slowSub(a, b api.Term) api.Term {
	var parts []api.Part
	for _, q := range b.Parts {
		parts = append(parts, api.Part{Var: q.Var, C: zint.Neg(q.C)})
	}
	return slowNorm(api.Term{Parts: slices.Concat(a.Parts, parts), K: zint.Sub(a.K, b.K)})
}

func slowWithout(t api.Term, v int) api.Term {
	t.Parts = slices.DeleteFunc(slices.Clone(t.Parts), func(q api.Part) bool { return q.Var == v })
	return slowNorm(t)
}

// slowPut puts the other term in the place of each single part of the variable.
func slowPut(t api.Term, v int, u api.Term) api.Term {
	sum := api.Term{K: t.K}
	for _, q := range t.Parts {
		one := api.Term{Parts: []api.Part{q}}
		if q.Var == v {
			one = slowScale(q.C, u)
		}
		sum = slowAdd(sum, one)
	}
	return slowNorm(sum)
}

func slowLimbs(t api.Term) int {
	t = slowNorm(t)
	count := len(t.K.Mag)
	for _, q := range t.Parts {
		if len(q.C.Mag) > count {
			count = len(q.C.Mag)
		}
	}
	return count
}

// slowOrder follows the promise word by word.
func slowOrder(a, b api.Term) int {
	a, b = slowNorm(a), slowNorm(b)
	for i := 0; ; i++ {
		switch {
		case i == len(a.Parts) && i == len(b.Parts):
			return zint.Cmp(a.K, b.K)
		case i == len(a.Parts):
			return -1
		case i == len(b.Parts):
			return 1
		case a.Parts[i].Var < b.Parts[i].Var:
			return -1
		case a.Parts[i].Var > b.Parts[i].Var:
			return 1
		}
		if order := zint.Cmp(a.Parts[i].C, b.Parts[i].C); order != 0 {
			return order
		}
	}
}

// slowEval adds up the parts one by one, as they were handed in.
func slowEval(t api.Term, vals []api.Value) (api.Int, api.Errno) {
	valueOf := func(v int) (api.Int, bool) {
		at := slices.IndexFunc(vals, func(value api.Value) bool { return value.Var == v })
		if at < 0 {
			return api.Int{}, false
		}
		return vals[at].N, true
	}
	for _, v := range slowVars(t) {
		if _, ok := valueOf(v); !ok {
			return api.Int{}, api.ErrArity
		}
	}
	sum := plain(t.K)
	for _, q := range t.Parts {
		// What is missing belongs to coefficients that come to 0 together, so that any value will do.
		value, _ := valueOf(q.Var)
		sum = zint.Add(sum, zint.Mul(q.C, value))
	}
	return sum, api.OK
}

func slowValid(t api.Term) bool { return tell(t) == tell(slowNorm(t)) }

// A dice draws what is tried, the same each time.
type dice struct{ state uint64 }

func (d *dice) roll(sides int) int {
	d.state = d.state*6364136223846793005 + 1442695040888963407
	return int(d.state>>33) % sides
}

// edges are numbers of all kinds, as they stand or not.
func edges() []api.Int {
	return []api.Int{
		above(), below(), above(0), below(0), above(0, 0, 0), below(0, 0), n(1), n(-1), above(1, 0, 0), below(1, 0), n(2), n(-2), n(3), below(3, 0, 0),
		above(top), below(top), above(top, 0), above(0, 1), below(0, 1), below(0, 1, 0), above(5, 0, 7), below(top, top, top), above(top, top, top, 0, 0), below(1, 2, 3, 4, 5),
	}
}

func variables() []int { return []int{least, least + 1, -3, -1, 0, 1, 2, 40, most - 1, most} }

func (d *dice) number() api.Int {
	l := edges()
	return l[d.roll(len(l))]
}

func (d *dice) variable() int {
	l := variables()
	return l[d.roll(len(l))]
}

// term draws one that mostly does not stand as it should. Few variables make it likely that some come again, and opposites that they fall away.
func (d *dice) term(parts int) api.Term {
	t := api.Term{K: d.number()}
	few := []int{d.variable(), d.variable(), d.variable()}
	for range d.roll(parts + 1) {
		q := api.Part{Var: few[d.roll(len(few))], C: d.number()}
		t.Parts = append(t.Parts, q)
		if d.roll(4) == 0 {
			t.Parts = append(t.Parts, api.Part{Var: q.Var, C: api.Int{Neg: !q.C.Neg, Mag: slices.Concat(q.C.Mag, []uint32{0})}})
		}
	}
	for i := range t.Parts {
		j := d.roll(i + 1)
		t.Parts[i], t.Parts[j] = t.Parts[j], t.Parts[i]
	}
	return t
}

// values draws some for about half of the variables, several for some.
func (d *dice) values() []api.Value {
	var vals []api.Value
	for range d.roll(3 * len(variables())) {
		vals = append(vals, api.Value{Var: d.variable(), N: d.number()})
	}
	return vals
}

// allValues draws one and more for each variable.
func (d *dice) allValues() []api.Value {
	vals := d.values()
	for _, v := range variables() {
		vals = append(vals, api.Value{Var: v, N: d.number()})
	}
	return vals
}

// terms are those of the edges, as they stand or not.
func terms() []api.Term {
	l := []api.Term{
		{}, {Parts: []api.Part{}}, {K: below()}, {K: above(0, 0)}, of(5), of(-5), {K: above(0, 1)}, {K: below(7, 0)},
		of(0, p(0, 1)), of(0, p(0, 2)), of(0, p(1, 1)), of(0, p(-1, 1)), of(9, p(0, 1)), of(-1, p(0, 1)), of(0, p(0, 1), p(1, 1)), of(0, p(0, 1), p(1, -1)),
		of(0, p(least, 1)), of(0, p(most, 1)), of(3, p(least, 2), p(most, -2)), of(3, p(most, -2), p(least, 2)),
		of(7, p(0, 0)), of(7, big(0, below())), of(7, big(0, above(0, 0))), of(7, p(0, 2), p(0, -2)), of(7, big(0, above(2, 0)), big(0, below(2))),
		of(5, p(1, 3), p(0, 2), p(1, -3)), of(5, p(2, 1), p(1, 1), p(0, 1)), of(5, p(0, 1), p(0, 1)), of(5, p(0, 2), p(0, 0)),
		of(0, big(0, above(top)), p(0, 1)), of(0, big(0, below(top, top)), p(0, -1)), of(0, big(0, above(0, 1)), p(0, -1), p(1, 1)),
		of(1, big(3, above(1, 2, 3)), big(-3, below(9, 9, 9, 9))), of(1, big(3, below(1, 2, 3, 0, 0)), p(3, 1), p(-3, 4)),
	}
	d := &dice{state: 5}
	for range 40 {
		l = append(l, d.term(6))
	}
	return l
}

// The second reckoning is looked at itself, where the answer is plain.
func TestSlowReckoning(t *testing.T) {
	wantTerm(t, "slowNorm", slowNorm(of(5, p(1, 3), p(0, 2), p(1, -3))), of(5, p(0, 2)))
	wantTerm(t, "slowPut", slowPut(of(1, p(0, 2), p(1, 1)), 0, of(-3, p(1, 1))), of(-5, p(1, 3)))
	if slowOrder(of(9, p(0, 1)), of(0, p(0, 1), p(1, 1))) != -1 || slowLimbs(of(1, big(0, above(0, 1)))) != 2 {
		t.Error("slowOrder, slowLimbs")
	}
	if !slowValid(of(1, p(-1, 1), p(2, 1))) || slowValid(of(1, p(2, 1), p(-1, 1))) {
		t.Error("slowValid")
	}
	stand, spoilt := 0, 0
	d := &dice{state: 1}
	for range 1000 {
		if term.Valid(d.term(6)) {
			stand++
		} else {
			spoilt++
		}
	}
	if stand < 30 || spoilt < 300 {
		t.Errorf("of the drawn terms %d stand, %d don't", stand, spoilt)
	}
}
