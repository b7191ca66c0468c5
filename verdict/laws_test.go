package verdict_test

import (
	"slices"
	"strconv"
	"testing"

	"riddle/api"
	"riddle/periods"
	"riddle/syntax"
	"riddle/verdict"
)

func (d *dice) given(names []string) values {
	v := values{}
	for _, name := range names {
		v[name] = d.roll(17) - 8
	}
	return v
}

// Q1: what Eliminate answers has no quantifier and no new free name, and is true under the same values: as they are looked at
// one by one, and as Eval says of both.
func TestP216Eliminate(t *testing.T) {
	d := &dice{state: 216}
	told, refused := map[bool]int{}, 0
	for range drawn {
		u := d.formula(d.roll(4), 0, d.bound)
		got, steps, e := verdict.Eliminate(u)
		if e != api.OK {
			refused++
			continue
		}
		names, left := freeIn(u), freeIn(got)
		if e := syntax.Check(got); e != api.OK && e != api.ErrDepth || !isPlain(got) || slices.ContainsFunc(left, func(name string) bool { return !slices.Contains(names, name) }) {
			t.Fatalf("%s: %s, %v", tellFormula(u), tellFormula(got), e)
		}
		if isPlain(u) && len(steps) > 0 || len(names) == 0 && got.Kind != api.TreeTrue && got.Kind != api.TreeFalse {
			t.Fatalf("%s: %s%s", tellFormula(u), tellFormula(got), tellSteps(steps))
		}
		for range 4 {
			vals := d.given(names)
			want := holds(u, vals)
			one, e1 := verdict.Eval(u, vals.list(names))
			two, e2 := verdict.Eval(got, vals.list(left))
			if holds(got, vals) != want || e1 == api.OK && one != want || e2 == api.OK && two != want || e1 == api.ErrArity || e2 == api.ErrArity {
				t.Fatalf("%s: %s, under %v: %v; Eval: %v, %v, and %v, %v", tellFormula(u), tellFormula(got), vals, want, one, e1, two, e2)
			}
			told[want]++
		}
	}
	if refused > drawn/5 || min(told[true], told[false]) < drawn {
		t.Errorf("told %v, refused %d", told, refused)
	}
}

// Q2: Decide says true only of true sentences, false only of others; of a sentence and its `not` just one is true.
func TestP216Decide(t *testing.T) {
	d := &dice{state: 217}
	told, refused := map[bool]int{}, 0
	for range drawn {
		u := d.formula(d.roll(4), 0, d.bound)
		for names := freeIn(u); len(names) > 0; names = freeIn(u) {
			u = d.spanned(api.TreeSome+d.roll(2), names, u)
		}
		is, e := verdict.Decide(u)
		other, e2 := verdict.Decide(not(u))
		if e != api.OK || e2 != api.OK {
			refused++
			continue
		}
		if want := holds(u, values{}); is != want || other == want {
			t.Fatalf("%s: %v, its opposite %v, want %v", tellFormula(u), is, other, want)
		}
		told[is]++
	}
	if refused > drawn/5 || min(told[true], told[false]) < drawn/5 {
		t.Errorf("told %v, refused %d", told, refused)
	}
}

// Eval is Decide of the formula with its values written into it, also where these are great, and where quantifiers have no
// bounds.
func TestP216Written(t *testing.T) {
	d := &dice{state: 218}
	told, refused := map[bool]int{}, 0
	for i := range drawn {
		limbs := i % 2 * 5
		u := d.formula(d.roll(4), limbs, d.quantifier)
		names := freeIn(u)
		vals := map[string]api.Int{}
		var list []api.Int
		for _, name := range names {
			vals[name] = d.value(limbs)
			list = append(list, vals[name])
		}
		one, e := verdict.Eval(u, list)
		two, e2 := verdict.Decide(put(u, vals))
		if e == api.ErrArity || e2 == api.ErrOpen {
			t.Fatalf("%s: %v, %v", tellFormula(u), e, e2)
		}
		if e != api.OK || e2 != api.OK {
			refused++
			continue
		}
		if one != two {
			t.Fatalf("%s, %s: %v; %s: %v", tellFormula(u), tellNumbers(list), one, tellFormula(put(u, vals)), two)
		}
		told[one]++
	}
	if refused > drawn/5 || min(told[true], told[false]) < drawn/5 {
		t.Errorf("told %v, refused %d", told, refused)
	}
}

// Q3: under what Witness answers the formula behind the leading quantifiers is true; it is ErrNone only where there is none:
// just where Decide says so, and where none is found by going from value to value.
func TestP216Witness(t *testing.T) {
	d := &dice{state: 219}
	found, none, refused := 0, 0, 0
	for range drawn {
		u := d.formula(d.roll(4), 0, d.bound)
		names := freeIn(u)
		if len(names) == 0 {
			continue
		}
		lead := names[:1+d.roll(len(names))]
		if d.roll(2) == 0 {
			lead = slices.Clone(lead)
			slices.Reverse(lead)
		}
		whole := some(u, lead...)
		for u.Kind == api.TreeSome {
			// Its quantifiers lead, too: what is behind them all is looked at.
			lead, u = append(slices.Clone(lead), u.Names...), u.Kids[0]
		}
		rest := freeIn(whole)
		vals := d.given(rest)
		l, e := verdict.Witness(whole, vals.list(rest))
		is, e2 := verdict.Eval(whole, vals.list(rest))
		if e != api.OK && e != api.ErrNone || e2 != api.OK {
			refused++
			continue
		}
		if is != (e == api.OK) || e == api.OK && len(l) != len(lead) {
			t.Fatalf("%s under %v: %s, %v; Eval: %v", tellFormula(whole), vals, tellNumbers(l), e, is)
		}
		at := vals
		for i := range l {
			at = at.with(lead[i], toInt(l[i]))
		}
		if e == api.OK && !holds(u, at) {
			t.Fatalf("%s under %v: %s, but not so", tellFormula(whole), vals, tellNumbers(l))
		}
		far := []int{0, 40, 12, 4, 2, 1, 1}[min(len(lead), 6)]
		if e == api.ErrNone && len(lead) < 6 && grid(lead, far, vals, func(v values) bool { at = v; return holds(u, v) }) {
			t.Fatalf("%s under %v: none, but %v", tellFormula(whole), vals, at)
		}
		if e == api.OK {
			found++
		} else {
			none++
		}
	}
	if refused > drawn/5 || min(found, none) < drawn/20 {
		t.Errorf("found %d, none %d, refused %d", found, none, refused)
	}
}

// Decide of Some over all free names is whether there is a witness, also where no quantifier has bounds.
func TestP216Closed(t *testing.T) {
	d := &dice{state: 220}
	told, refused := map[bool]int{}, 0
	for range drawn {
		u := d.formula(d.roll(4), 0, d.quantifier)
		whole := some(u, append(freeIn(u), "q")...)
		is, e := verdict.Decide(whole)
		l, e2 := verdict.Witness(whole, nil)
		if e != api.OK || e2 != api.OK && e2 != api.ErrNone {
			refused++
			continue
		}
		if is != (e2 == api.OK) || is != (l != nil) {
			t.Fatalf("%s: %v; Witness: %s, %v", tellFormula(whole), is, tellNumbers(l), e2)
		}
		told[is]++
	}
	if refused > drawn/5 || min(told[true], told[false]) < drawn/20 {
		t.Errorf("told %v, refused %d", told, refused)
	}
}

// Q5: a number is in Solutions just where Eval says so; there is none just where elimination says false.
func TestP216Solutions(t *testing.T) {
	d := &dice{state: 221}
	told, empty, refused := map[bool]int{}, 0, 0
	for i := range drawn {
		bind := d.bound
		if i%2 == 0 {
			bind = d.quantifier
		}
		u := d.formula(d.roll(4), 0, bind)
		names := freeIn(u)
		if len(names) == 0 {
			continue
		}
		if len(names) > 1 {
			u = d.spanned(api.TreeSome+d.roll(2), names[1:], u)
		}
		if !slices.Equal(freeIn(u), names[:1]) {
			continue
		}
		s, e := verdict.Solutions(u)
		if e != api.OK {
			refused++
			continue
		}
		for range 8 {
			k := small(d.roll(61) - 30)
			if d.roll(4) == 0 {
				k = widest(1+d.roll(5), d.roll(7))
				k.Neg = d.roll(2) == 0
			}
			is, e := verdict.Eval(u, []api.Int{k})
			if e == api.OK && is != s.Has(k) {
				t.Fatalf("%s, %s: %v; %s", tellFormula(u), tellNumber(k), is, tellSet(s))
			}
			if e == api.OK {
				told[is]++
			}
		}
		if is, e := verdict.Decide(some(u, names[0])); e == api.OK && is == s.Same(periods.None()) {
			t.Fatalf("%s: %s, and Decide: %v", tellFormula(u), tellSet(s), is)
		} else if e == api.OK && !is {
			empty++
		}
	}
	if refused > drawn/5 || min(told[true], told[false]) < drawn || empty < drawn/50 {
		t.Errorf("told %v, empty %d, refused %d", told, empty, refused)
	}
}

// twisted is a formula that says the same: bound names are others, kids of `and` and `or` stand in another order, some
// formulas stand below a double `not`.
func (d *dice) twisted(t api.Tree, names map[string]string, bound *int) api.Tree {
	if name, is := names[t.Name]; is && t.Kind == api.TreeVar {
		return v(name)
	}
	if len(t.Names) > 0 {
		inner := map[string]string{}
		for name, other := range names {
			inner[name] = other
		}
		t.Names = slices.Clone(t.Names)
		for i, name := range t.Names {
			*bound++
			t.Names[i] = "b" + strconv.Itoa(*bound)
			inner[name] = t.Names[i]
		}
		names = inner
	}
	t.Kids = slices.Clone(t.Kids)
	for i := range t.Kids {
		t.Kids[i] = d.twisted(t.Kids[i], names, bound)
	}
	if t.Kind == api.TreeAnd || t.Kind == api.TreeOr {
		for i := range t.Kids {
			j := d.roll(i + 1)
			t.Kids[i], t.Kids[j] = t.Kids[j], t.Kids[i]
		}
	}
	if t.Kind >= api.TreeTrue && d.roll(4) == 0 {
		return not(not(t))
	}
	return t
}

// Formulas that differ by bound names, by the order of kids, or by a double `not`, get the same verdict.
func TestQ6Decide(t *testing.T) {
	d := &dice{state: 222}
	told := map[bool]int{}
	for range drawn {
		u := d.formula(d.roll(4), 0, d.quantifier)
		if names := freeIn(u); len(names) > 0 {
			u = bind(api.TreeSome+d.roll(2), names, u)
		}
		other := d.twisted(u, nil, new(int))
		one, e := verdict.Decide(u)
		two, e2 := verdict.Decide(other)
		if e != api.OK || e2 != api.OK {
			continue
		}
		if one != two {
			t.Fatalf("%s: %v; %s: %v", tellFormula(u), one, tellFormula(other), two)
		}
		told[one]++
	}
	if min(told[true], told[false]) < drawn/5 {
		t.Errorf("told %v", told)
	}
}
