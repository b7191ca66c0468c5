package ground_test

import (
	"math"
	"slices"
	"strconv"
	"strings"
	"testing"

	"riddle/api"
	"riddle/arena"
	"riddle/ground"
	"riddle/meter"
)

const (
	top   = 1<<32 - 1
	least = math.MinInt
	most  = math.MaxInt
	// drawn is how many arenas a test draws.
	drawn = 2000
)

// Numbers, values and formulas are made here by short calls.

// n is a small number, made without the layers below.
func n(k int) api.Int {
	switch {
	case k == 0:
		return api.Int{}
	case k < 0:
		return api.Int{Neg: true, Mag: []uint32{uint32(-k)}}
	}
	return api.Int{Mag: []uint32{uint32(k)}}
}

// wide is a number of just so many limbs, as small as such a one can be.
func wide(limbs int) api.Int { return api.Int{Mag: append(make([]uint32, limbs-1), 1)} }

// widest is the greatest number of just so many limbs.
func widest(limbs int) api.Int { return api.Int{Mag: slices.Repeat([]uint32{top}, limbs)} }

func opposite(a api.Int) api.Int { return api.Int{Neg: len(a.Mag) > 0 && !a.Neg, Mag: a.Mag} }

func p(v, c int) api.Part { return api.Part{Var: v, C: n(c)} }

func big(v int, c api.Int) api.Part { return api.Part{Var: v, C: c} }

func val(v, k int) api.Value { return api.Value{Var: v, N: n(k)} }

func bigVal(v int, k api.Int) api.Value { return api.Value{Var: v, N: k} }

func row(vals ...api.Value) []api.Value { return vals }

// at is a row with values of the variables 0, 1, 2 and so on.
func at(values ...int) []api.Value {
	var vals []api.Value
	for v, k := range values {
		vals = append(vals, val(v, k))
	}
	return vals
}

func bigAt(values ...api.Int) []api.Value {
	var vals []api.Value
	for v, k := range values {
		vals = append(vals, bigVal(v, k))
	}
	return vals
}

func rows(l ...[]api.Value) [][]api.Value { return l }

// A form is a formula that is yet to be laid in an arena, node by node, none of them made simpler.
type form func(a *arena.Arena) int

func atomOf(kind int, d, k api.Int, parts []api.Part) form {
	return func(a *arena.Arena) int {
		return laid(a.Atom(api.Atom{Kind: kind, D: d, T: api.Term{Parts: parts, K: k}}))
	}
}

// laid fails where a test has made a formula that can't be.
func laid(id int, e api.Errno) int {
	if e != api.OK {
		panic(e)
	}
	return id
}

func never() form { return func(*arena.Arena) int { return 0 } }

func always() form { return func(*arena.Arena) int { return 1 } }

func less(k int, parts ...api.Part) form { return atomOf(api.Less, n(0), n(k), parts) }

func bigLess(k api.Int, parts ...api.Part) form { return atomOf(api.Less, n(0), k, parts) }

func div(d, k int, parts ...api.Part) form { return atomOf(api.Div, n(d), n(k), parts) }

func bigDiv(d, k api.Int, parts ...api.Part) form { return atomOf(api.Div, d, k, parts) }

func not(d, k int, parts ...api.Part) form { return atomOf(api.Not, n(d), n(k), parts) }

func bigNot(d, k api.Int, parts ...api.Part) form { return atomOf(api.Not, d, k, parts) }

// x, y and z are shorter ways to say 0 < c v + k, of the variables 0, 1 and 2; xy is 0 < c v0 + e v1 + k.

func x(c, k int) form { return less(k, p(0, c)) }

func y(c, k int) form { return less(k, p(1, c)) }

func z(c, k int) form { return less(k, p(2, c)) }

func xy(c, e, k int) form { return less(k, p(0, c), p(1, e)) }

func joined(kind int, kids []form) form {
	return func(a *arena.Arena) int { return laid(a.Join(kind, layAll(a, kids)...)) }
}

func and(kids ...form) form { return joined(api.And, kids) }

func or(kids ...form) form { return joined(api.Or, kids) }

func some(v int, kid form) form {
	return func(a *arena.Arena) int { return laid(a.Bind(api.Some, v, kid(a))) }
}

func all(v int, kid form) form {
	return func(a *arena.Arena) int { return laid(a.Bind(api.All, v, kid(a))) }
}

func layAll(a *arena.Arena, forms []form) []int {
	var ids []int
	for _, f := range forms {
		ids = append(ids, f(a))
	}
	return ids
}

func of(forms ...form) []form { return forms }

// behind is a formula that is laid behind others, so that the numbers of nodes are not in the order of its text.
func behind(first []form, f form) form {
	return func(a *arena.Arena) int {
		layAll(a, first)
		return f(a)
	}
}

// The tellers tell all fields as they stand, limb by limb, so that what differs in anything is told otherwise.

func tellInt(a api.Int) string {
	var b strings.Builder
	if a.Neg {
		b.WriteString("-")
	}
	for _, limb := range a.Mag {
		b.WriteString("'" + strconv.FormatUint(uint64(limb), 10))
	}
	return b.String()
}

func tellTerm(t api.Term) string {
	var b strings.Builder
	for _, q := range t.Parts {
		b.WriteString(tellInt(q.C) + " v" + strconv.Itoa(q.Var) + " + ")
	}
	return b.String() + tellInt(t.K)
}

func tellNode(x api.Node) string {
	var texts []string
	for _, kid := range x.Kids {
		texts = append(texts, strconv.Itoa(kid))
	}
	return "[kind " + strconv.Itoa(x.Kind) + ", " + tellInt(x.D) + ", " + tellTerm(x.T) + "] v" + strconv.Itoa(x.Var) + " (" + strings.Join(texts, ", ") + ")"
}

// tellArena tells all nodes and the meter; of a nil arena nothing.
func tellArena(a *arena.Arena) string {
	if a == nil {
		return ""
	}
	var b strings.Builder
	for id := range a.Len() {
		b.WriteString(strconv.Itoa(id) + " " + tellNode(whole(a, id)) + "\n")
	}
	return b.String() + strconv.Itoa(a.Meter().Spent()) + " " + a.Meter().Over().Error()
}

func tellRow(vals []api.Value) string {
	var texts []string
	for _, value := range vals {
		texts = append(texts, "v"+strconv.Itoa(value.Var)+" is "+tellInt(value.N))
	}
	return "(" + strings.Join(texts, ", ") + ")"
}

func tellRows(l [][]api.Value) string {
	var texts []string
	for _, vals := range l {
		texts = append(texts, tellRow(vals))
	}
	return strings.Join(texts, ", ")
}

// short cuts what would fill pages.
func short(text string) string {
	if len(text) > 3000 {
		return text[:3000] + ".."
	}
	return text
}

// whole is all of a formula's node; the tests ask it of numbers that are there.
func whole(a *arena.Arena, id int) api.Node {
	node, _ := a.Node(id)
	return node
}

func meterOf(t *testing.T, nodes, limbs int) *meter.Meter {
	t.Helper()
	m, e := meter.New(nodes, limbs)
	if m == nil || e != api.OK {
		t.Fatalf("meter.New(%d, %d): %v", nodes, limbs, e)
	}
	return m
}

// truth fails unless Eval answers so, and for the second time, too; unless Count of that row alone, and of it three times,
// goes with it; and unless nothing is made or counted.
func truth(t *testing.T, a *arena.Arena, id int, vals []api.Value, want bool, wantE api.Errno) {
	t.Helper()
	was := tellArena(a)
	for range 2 {
		if is, e := ground.Eval(a, id, vals); is != want || e != wantE {
			t.Errorf("Eval of %d, %s: %v, %v, want %v, %v, in\n%s", id, short(tellRow(vals)), is, e, want, wantE, short(was))
		}
	}
	one := 0
	if want {
		one = 1
	}
	for _, often := range []int{1, 3} {
		counts(t, a, id, slices.Repeat(rows(vals), often), often*one, wantE)
	}
	if tellArena(a) != was {
		t.Errorf("of %d something was made:\n%s\nwas\n%s", id, short(tellArena(a)), short(was))
	}
}

// counts fails unless Count answers so, and nothing is made or counted.
func counts(t *testing.T, a *arena.Arena, id int, l [][]api.Value, want int, wantE api.Errno) {
	t.Helper()
	was := tellArena(a)
	if count, e := ground.Count(a, id, l); count != want || e != wantE {
		t.Errorf("Count of %d, %s: %d, %v, want %d, %v, in\n%s", id, short(tellRows(l)), count, e, want, wantE, short(was))
	}
	if tellArena(a) != was {
		t.Errorf("of %d something was made:\n%s\nwas\n%s", id, short(tellArena(a)), short(was))
	}
}

// A claim is a formula with rows under which it is true, and rows under which it is false.
type claim struct {
	of      form
	yes, no [][]api.Value
}

func claims(t *testing.T, l []claim) {
	t.Helper()
	for _, c := range l {
		a := arena.New(nil)
		id := c.of(a)
		for _, vals := range c.yes {
			truth(t, a, id, vals, true, api.OK)
		}
		for _, vals := range c.no {
			truth(t, a, id, vals, false, api.OK)
		}
		counts(t, a, id, slices.Concat(c.no, c.yes, c.no), len(c.yes), api.OK)
	}
}

// refuses fails unless both calls are refused by that error, Count also with several rows.
func refuses(t *testing.T, a *arena.Arena, id int, vals []api.Value, want api.Errno) {
	t.Helper()
	truth(t, a, id, vals, false, want)
}

// The examples of the chapter.
func TestExamples(t *testing.T) {
	a := arena.New(nil)
	f := and(xy(1, -1, 0), div(2, 0, p(0, 1)))(a)
	bound := laid(a.Bind(api.Some, 0, f))
	truth(t, a, f, row(val(0, 4), val(1, 3)), true, api.OK)
	truth(t, a, f, row(val(0, 4), val(0, 3), val(1, 9)), false, api.OK)
	refuses(t, a, f, row(val(0, 3)), api.ErrArity)
	truth(t, a, 1, nil, true, api.OK)
	refuses(t, a, bound, row(val(1, 0)), api.ErrQuant)
	refuses(t, a, 99, nil, api.ErrNode)
	counts(t, a, f, rows(at(2, 1), at(2, 2), at(4, 0)), 2, api.OK)
	counts(t, a, f, nil, 0, api.OK)
	if api.ErrArg != 1 || api.ErrNode != 80 || api.ErrQuant != 130 || api.ErrArity != 170 {
		t.Error("the errors have other numbers")
	}
}
