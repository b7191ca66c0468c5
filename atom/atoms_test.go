package atom_test

import (
	"cmp"
	"math"
	"slices"
	"strconv"
	"strings"
	"testing"

	"riddle/api"
	"riddle/atom"
	"riddle/term"
	"riddle/zint"
)

const (
	top   = 1<<32 - 1
	least = math.MinInt
	most  = math.MaxInt
	drawn = 3000
)

// Numbers, terms and atoms are made here by short calls, as they stand or not.

func above(limbs ...uint32) api.Int { return api.Int{Mag: limbs} }

func below(limbs ...uint32) api.Int { return api.Int{Neg: true, Mag: limbs} }

// n is a small number, made without the layers below.
func n(k int) api.Int {
	switch {
	case k == 0:
		return api.Int{}
	case k < 0:
		return below(uint32(-k))
	}
	return above(uint32(k))
}

func p(v, c int) api.Part { return api.Part{Var: v, C: n(c)} }

func big(v int, c api.Int) api.Part { return api.Part{Var: v, C: c} }

func of(k int, parts ...api.Part) api.Term { return api.Term{Parts: parts, K: n(k)} }

func value(v, k int) api.Value { return api.Value{Var: v, N: n(k)} }

func less(t api.Term) api.Atom { return api.Atom{Kind: api.Less, T: t} }

func div(d int, t api.Term) api.Atom { return api.Atom{Kind: api.Div, D: n(d), T: t} }

func not(d int, t api.Term) api.Atom { return api.Atom{Kind: api.Not, D: n(d), T: t} }

// never and always are the two constants.
func never() api.Atom { return api.Atom{Kind: api.False} }

func always() api.Atom { return api.Atom{Kind: api.True} }

// spoilt says the same number by limbs that are too many.
func spoilt(a api.Int) api.Int {
	return api.Int{Neg: a.Neg || len(a.Mag) == 0, Mag: slices.Concat(a.Mag, []uint32{0, 0})}
}

// spoiltTerm says the same term: its first variable in two parts, the last one ahead, and another one that comes to nothing.
func spoiltTerm(t api.Term) api.Term {
	u := api.Term{K: spoilt(t.K), Parts: []api.Part{p(9, 4)}}
	for _, q := range slices.Backward(t.Parts) {
		u.Parts = append(u.Parts, api.Part{Var: q.Var, C: spoilt(q.C)})
	}
	if len(t.Parts) > 0 {
		v := t.Parts[0].Var
		u.Parts = append(u.Parts, p(v, 5), p(v, -5))
	}
	return api.Term{K: u.K, Parts: append(u.Parts, p(9, -4), p(7, 0))}
}

// The tellers tell all fields as they stand, limb by limb, so that what differs in anything is told otherwise.

func tellInt(a api.Int) string {
	var b strings.Builder
	if a.Neg {
		b.WriteString("-")
	}
	for _, limb := range a.Mag {
		b.WriteString("'" + strconv.FormatUint(uint64(limb), 10))
	}
	return b.String()
}

func tellTerm(t api.Term) string {
	var b strings.Builder
	for _, q := range t.Parts {
		b.WriteString(tellInt(q.C) + " v" + strconv.Itoa(q.Var) + " + ")
	}
	return b.String() + tellInt(t.K)
}

func tell(a api.Atom) string {
	return "[kind " + strconv.Itoa(a.Kind) + ", " + tellInt(a.D) + ", " + tellTerm(a.T) + "]"
}

func tellValues(vals []api.Value) string {
	var b strings.Builder
	for _, value := range vals {
		b.WriteString("v" + strconv.Itoa(value.Var) + " is " + tellInt(value.N) + ", ")
	}
	return b.String()
}

// want fails unless an atom is, limb by limb, the one that is wanted: so that it also stands as it should, if that one does.
func want(t *testing.T, call string, got, want api.Atom) {
	t.Helper()
	if tell(got) != tell(want) {
		t.Errorf("%s: %s, want %s", call, tell(got), tell(want))
	}
}

func wantError(t *testing.T, call string, a api.Atom, e, wanted api.Errno) {
	t.Helper()
	if e != wanted || tell(a) != tell(api.Atom{}) {
		t.Errorf("%s: %s, %v, want nothing but %v", call, tell(a), e, wanted)
	}
}

// What the package's calls answer is reckoned here a second time, as the chapter says it, word by word, and on no other
// call of the package.

func slowGcd(a, b api.Int) api.Int {
	for len(b.Mag) > 0 {
		_, r, _ := zint.DivMod(a, b)
		a, b = b, r
	}
	return zint.Abs(a)
}

// slowLess rounds the constant's quotient upwards, which is the same.
func slowLess(t api.Term) api.Atom {
	t = term.Norm(t)
	if len(t.Parts) == 0 {
		if !t.K.Neg && len(t.K.Mag) > 0 {
			return always()
		}
		return never()
	}
	var g api.Int
	for _, q := range t.Parts {
		g = slowGcd(q.C, g)
	}
	for i, q := range t.Parts {
		t.Parts[i].C, _, _ = zint.DivMod(q.C, g)
	}
	down, _, _ := zint.DivMod(zint.Neg(t.K), g)
	t.K = zint.Neg(down)
	return less(t)
}

func isOne(a api.Int) bool { return !a.Neg && slices.Equal(a.Mag, []uint32{1}) }

// slowDiv is the form of "d divides t", d not 0.
func slowDiv(d api.Int, t api.Term) api.Atom {
	d = zint.Abs(d)
	t = term.Norm(t)
	_, k, _ := zint.DivMod(t.K, d)
	g := d
	var parts []api.Part
	for _, q := range t.Parts {
		_, c, _ := zint.DivMod(q.C, d)
		if len(c.Mag) > 0 {
			parts = append(parts, big(q.Var, c))
			g = slowGcd(c, g)
		}
	}
	if len(parts) == 0 && len(k.Mag) == 0 {
		return always()
	}
	if len(parts) == 0 {
		return never()
	}
	k, r, _ := zint.DivMod(k, g)
	if len(r.Mag) > 0 {
		return never()
	}
	d, _, _ = zint.DivMod(d, g)
	for i := range parts {
		parts[i].C, _, _ = zint.DivMod(parts[i].C, g)
	}
	if isOne(d) {
		return always()
	}
	return api.Atom{Kind: api.Div, D: d, T: slowFirst(d, api.Term{Parts: parts, K: k})}
}

// slowFirst is the one of a term and its opposite modulo d that comes first: by the first number that differs.
func slowFirst(d api.Int, t api.Term) api.Term {
	var opposite api.Term
	order := 0
	for _, q := range t.Parts {
		c := zint.Sub(d, q.C)
		opposite.Parts = append(opposite.Parts, big(q.Var, c))
		order = cmp.Or(order, zint.Cmp(q.C, c))
	}
	if len(t.K.Mag) > 0 {
		opposite.K = zint.Sub(d, t.K)
	}
	if cmp.Or(order, zint.Cmp(t.K, opposite.K)) > 0 {
		return opposite
	}
	return t
}

func slowTurned(a api.Atom) api.Atom {
	a.Kind = [...]int{api.True, api.False, -1, api.Not, api.Div}[a.Kind]
	return a
}

func slowNorm(a api.Atom) (api.Atom, api.Errno) {
	isZero := len(zint.Norm(a.D).Mag) == 0
	switch {
	case a.Kind < api.False || a.Kind > api.Not:
		return api.Atom{}, api.ErrArg
	case a.Kind < api.Less:
		return api.Atom{Kind: a.Kind}, api.OK
	case a.Kind == api.Less:
		return slowLess(a.T), api.OK
	case isZero:
		return api.Atom{}, api.ErrZero
	case a.Kind == api.Not:
		return slowTurned(slowDiv(a.D, a.T)), api.OK
	}
	return slowDiv(a.D, a.T), api.OK
}

func slowNegate(a api.Atom) api.Atom {
	a, e := slowNorm(a)
	if e != api.OK {
		return api.Atom{}
	}
	if a.Kind == api.Less {
		return slowLess(term.Add(term.Scale(n(-1), a.T), of(1)))
	}
	return slowTurned(a)
}

func slowPut(a api.Atom, v int, u api.Term) api.Atom {
	a, e := slowNorm(a)
	if e != api.OK {
		return api.Atom{}
	}
	a.T = term.Add(term.Without(a.T, v), term.Scale(term.Coef(a.T, v), u))
	a, _ = slowNorm(a)
	return a
}

// slowHolds asks the atom as it was handed in, but for variables that its form has not.
func slowHolds(a api.Atom, vals []api.Value) (bool, api.Errno) {
	form, e := slowNorm(a)
	if e != api.OK {
		return false, e
	}
	for _, v := range term.Vars(form.T) {
		if !slices.ContainsFunc(vals, func(value api.Value) bool { return value.Var == v }) {
			return false, api.ErrArity
		}
	}
	vals = slices.Clone(vals)
	for _, q := range a.T.Parts {
		// The form does not have what is missing, so that any value will do.
		vals = append(vals, value(q.Var, 0))
	}
	return says(a, vals), api.OK
}

// says is what an atom says as it was handed in: by the words of the document, not by its form.
func says(a api.Atom, vals []api.Value) bool {
	k, e := term.Eval(a.T, vals)
	if e != api.OK {
		panic("a variable without a value")
	}
	switch a.Kind {
	case api.Less:
		return !k.Neg && len(k.Mag) > 0
	case api.Div, api.Not:
		_, r, _ := zint.DivMod(k, a.D)
		return (len(r.Mag) == 0) == (a.Kind == api.Div)
	}
	return a.Kind == api.True
}

func slowValid(a api.Atom) bool {
	form, e := slowNorm(a)
	return e == api.OK && tell(a) == tell(form)
}

// A dice draws what is tried, the same each time.
type dice struct{ state uint64 }

func (d *dice) roll(sides int) int {
	d.state = d.state*6364136223846793005 + 1442695040888963407
	return int(d.state>>33) % sides
}

// edges are numbers of all kinds, as they stand or not.
func edges() []api.Int {
	return []api.Int{
		above(), below(), above(0), below(0), above(0, 0, 0), below(0, 0), n(1), n(-1), above(1, 0, 0), below(1, 0), n(2), n(-2), n(3), below(3, 0, 0), n(4), n(-6),
		n(12), n(-30), above(top), below(top), above(top, 0), above(0, 1), below(0, 1), below(0, 1, 0), above(0, 6), above(5, 0, 7), below(top, top, top),
		above(top, top, top, 0, 0), below(1, 2, 3, 4, 5),
	}
}

func variables() []int { return []int{least, -3, -1, 0, 1, 2, 40, most} }

// number draws small ones mostly, so that divisors in common are likely.
func (d *dice) number() api.Int {
	if d.roll(3) > 0 {
		return n(d.roll(49) - 24)
	}
	l := edges()
	return l[d.roll(len(l))]
}

func (d *dice) variable() int {
	l := variables()
	return l[d.roll(len(l))]
}

// term draws one that often does not stand as it should, some of them so many times a small number.
func (d *dice) term(parts int) api.Term {
	t := api.Term{K: d.number()}
	for range d.roll(parts + 1) {
		q := api.Part{Var: d.variable(), C: d.number()}
		t.Parts = append(t.Parts, q)
		if d.roll(6) == 0 {
			t.Parts = append(t.Parts, api.Part{Var: q.Var, C: api.Int{Neg: !q.C.Neg, Mag: slices.Concat(q.C.Mag, []uint32{0})}})
		}
	}
	switch d.roll(3) {
	case 0:
		return term.Scale(n(d.roll(9)-4), t)
	case 1:
		return term.Norm(t)
	}
	return t
}

// atom draws one of any kind, rarely of none.
func (d *dice) atom() api.Atom {
	a := api.Atom{Kind: d.roll(6) - 1, D: d.number(), T: d.term(4)}
	if d.roll(2) == 0 {
		a.Kind = api.Less + d.roll(3)
	}
	if d.roll(3) == 0 {
		a, _ = slowNorm(a)
	}
	return a
}

// formed draws one that Norm takes.
func (d *dice) formed() api.Atom {
	for {
		a := d.atom()
		if _, e := slowNorm(a); e == api.OK {
			return a
		}
	}
}

// values draws some for about half of the variables, several for some.
func (d *dice) values() []api.Value {
	var vals []api.Value
	for range d.roll(3 * len(variables())) {
		vals = append(vals, api.Value{Var: d.variable(), N: d.number()})
	}
	return vals
}

// allValues draws one and more for each variable.
func (d *dice) allValues() []api.Value {
	vals := d.values()
	for _, v := range variables() {
		vals = append(vals, api.Value{Var: v, N: d.number()})
	}
	return vals
}

// others are kinds that no atom has.
func others() []int { return []int{least, -2, -1, api.And, api.Or, api.Some, api.All, 9, most} }

// The second reckoning and what is drawn are looked at themselves, where the answer is plain.
func TestSlowReckoning(t *testing.T) {
	want(t, "slowLess", slowLess(of(3, p(0, 2))), less(of(2, p(0, 1))))
	want(t, "slowDiv", slowDiv(n(-6), of(2, p(0, 4))), div(3, of(2, p(0, 1))))
	want(t, "slowPut", slowPut(div(3, of(0, p(0, 1))), 0, of(1, p(1, 3))), never())
	var kinds [5]int
	stand, refused := 0, 0
	d := &dice{state: 1}
	for range drawn {
		a := d.atom()
		form, e := slowNorm(a)
		if e != api.OK {
			refused++
			continue
		}
		kinds[form.Kind]++
		if slowValid(a) {
			stand++
		}
	}
	if slices.Min(kinds[:]) < drawn/30 || stand < drawn/20 || refused < drawn/30 {
		t.Errorf("of %d drawn atoms the kinds come to %v, %d stand, %d are refused", drawn, kinds, stand, refused)
	}
	if !atom.Valid(less(of(2, p(0, 1)))) {
		t.Error("Valid")
	}
}
