package limit_test

import (
	"math"
	"slices"
	"strconv"
	"strings"
	"testing"

	"riddle/api"
	"riddle/arena"
	"riddle/limit"
	"riddle/meter"
)

const (
	top   = 1<<32 - 1
	least = math.MinInt
	most  = math.MaxInt
	// drawn is how many arenas a test draws.
	drawn = 2000
)

// Numbers, terms and formulas are made here by short calls.

// n is a small number, made without the layers below.
func n(k int) api.Int {
	switch {
	case k == 0:
		return api.Int{}
	case k < 0:
		return api.Int{Neg: true, Mag: []uint32{uint32(-k)}}
	}
	return api.Int{Mag: []uint32{uint32(k)}}
}

// limbs is a number above 0, the least limb first.
func limbs(l ...uint32) api.Int { return api.Int{Mag: l} }

// wide is a number of just so many limbs, as small as such a one can be.
func wide(limbs int) api.Int { return api.Int{Mag: append(make([]uint32, limbs-1), 1)} }

// widest is the greatest number of just so many limbs.
func widest(limbs int) api.Int { return api.Int{Mag: slices.Repeat([]uint32{top}, limbs)} }

func opposite(a api.Int) api.Int { return api.Int{Neg: len(a.Mag) > 0 && !a.Neg, Mag: a.Mag} }

func p(v, c int) api.Part { return api.Part{Var: v, C: n(c)} }

func big(v int, c api.Int) api.Part { return api.Part{Var: v, C: c} }

func sum(k int, parts ...api.Part) api.Term { return api.Term{Parts: parts, K: n(k)} }

func bigSum(k api.Int, parts ...api.Part) api.Term { return api.Term{Parts: parts, K: k} }

func terms(l ...api.Term) []api.Term { return l }

// A form is a formula that is yet to be laid in an arena, node by node, none of them made simpler.
type form func(a *arena.Arena) int

func atomOf(kind int, d, k api.Int, parts []api.Part) form {
	return func(a *arena.Arena) int {
		return laid(a.Atom(api.Atom{Kind: kind, D: d, T: api.Term{Parts: parts, K: k}}))
	}
}

// laid fails where a test has made a formula that can't be.
func laid(id int, e api.Errno) int {
	if e != api.OK {
		panic(e)
	}
	return id
}

func never() form { return func(*arena.Arena) int { return 0 } }

func always() form { return func(*arena.Arena) int { return 1 } }

func less(k int, parts ...api.Part) form { return atomOf(api.Less, n(0), n(k), parts) }

func bigLess(k api.Int, parts ...api.Part) form { return atomOf(api.Less, n(0), k, parts) }

func div(d, k int, parts ...api.Part) form { return atomOf(api.Div, n(d), n(k), parts) }

func bigDiv(d, k api.Int, parts ...api.Part) form { return atomOf(api.Div, d, k, parts) }

func not(d, k int, parts ...api.Part) form { return atomOf(api.Not, n(d), n(k), parts) }

func bigNot(d, k api.Int, parts ...api.Part) form { return atomOf(api.Not, d, k, parts) }

// x, y and z are shorter ways to say 0 < c v + k, of the variables 0, 1 and 2; xy is 0 < c v0 + e v1 + k. (0 < 2 v0 + k
// could not stand so: its form has the coefficient 1.)

func x(c, k int) form { return less(k, p(0, c)) }

func y(c, k int) form { return less(k, p(1, c)) }

func z(c, k int) form { return less(k, p(2, c)) }

func xy(c, e, k int) form { return less(k, p(0, c), p(1, e)) }

func joined(kind int, kids []form) form {
	return func(a *arena.Arena) int { return laid(a.Join(kind, layAll(a, kids)...)) }
}

func and(kids ...form) form { return joined(api.And, kids) }

func or(kids ...form) form { return joined(api.Or, kids) }

func some(v int, kid form) form {
	return func(a *arena.Arena) int { return laid(a.Bind(api.Some, v, kid(a))) }
}

func all(v int, kid form) form {
	return func(a *arena.Arena) int { return laid(a.Bind(api.All, v, kid(a))) }
}

func layAll(a *arena.Arena, forms []form) []int {
	var ids []int
	for _, f := range forms {
		ids = append(ids, f(a))
	}
	return ids
}

func of(forms ...form) []form { return forms }

// behind is a formula that is laid behind others, so that the numbers of nodes are not in the order of its text.
func behind(first []form, f form) form {
	return func(a *arena.Arena) int {
		layAll(a, first)
		return f(a)
	}
}

// The tellers tell all fields as they stand, limb by limb, so that what differs in anything is told otherwise.

func tellInt(a api.Int) string {
	var b strings.Builder
	if a.Neg {
		b.WriteString("-")
	}
	for _, limb := range a.Mag {
		b.WriteString("'" + strconv.FormatUint(uint64(limb), 10))
	}
	return b.String()
}

func tellTerm(t api.Term) string {
	var b strings.Builder
	for _, q := range t.Parts {
		b.WriteString(tellInt(q.C) + " v" + strconv.Itoa(q.Var) + " + ")
	}
	return b.String() + tellInt(t.K)
}

func tellTerms(l []api.Term) string {
	var texts []string
	for _, t := range l {
		texts = append(texts, tellTerm(t))
	}
	return "[" + strings.Join(texts, "; ") + "]"
}

func tellList(l []int) string {
	var texts []string
	for _, id := range l {
		texts = append(texts, strconv.Itoa(id))
	}
	return "(" + strings.Join(texts, ", ") + ")"
}

func tellNode(x api.Node) string {
	return "[kind " + strconv.Itoa(x.Kind) + ", " + tellInt(x.D) + ", " + tellTerm(x.T) + "] v" + strconv.Itoa(x.Var) + " " + tellList(x.Kids)
}

// tellNodes tells the first nodes of an arena, in the order in which they were made.
func tellNodes(a *arena.Arena, many int) string {
	var b strings.Builder
	for id := range many {
		b.WriteString(strconv.Itoa(id) + " " + tellNode(whole(a, id)) + "\n")
	}
	return b.String()
}

// tellArena tells all nodes and the meter.
func tellArena(a *arena.Arena) string {
	return tellNodes(a, a.Len()) + strconv.Itoa(a.Meter().Spent()) + " " + a.Meter().Over().Error()
}

// short cuts what would fill pages.
func short(text string) string {
	if len(text) > 3000 {
		return text[:3000] + ".."
	}
	return text
}

// whole is all of a formula's node; the tests ask it of numbers that are there.
func whole(a *arena.Arena, id int) api.Node {
	node, _ := a.Node(id)
	return node
}

// isInt tells whether a number is another one, and stands as it should.
func isInt(got, want api.Int) bool { return tellInt(got) == tellInt(want) }

// areTerms tells whether the terms are others, in the same order, and stand as they should.
func areTerms(got, want []api.Term) bool {
	return slices.EqualFunc(got, want, func(s, t api.Term) bool { return tellTerm(s) == tellTerm(t) })
}

func meterOf(t *testing.T, nodes, limbs int) *meter.Meter {
	t.Helper()
	m, e := meter.New(nodes, limbs)
	if m == nil || e != api.OK {
		t.Fatalf("meter.New(%d, %d): %v", nodes, limbs, e)
	}
	return m
}

// A far is one of the two calls that tell a formula far away.
type far struct {
	name string
	do   func(a *arena.Arena, id, v int) (int, api.Errno)
}

func low() far { return far{"Low", limit.Low} }

func high() far { return far{"High", limit.High} }

// A making is a formula, what a call of it and v0 is to answer, and what is to be made on the way, in that order.
type making struct {
	call     far
	of, want form
	news     []form
}

// makes fails unless a call answers what it should and makes just what it should, in its order, each counted once; unless
// it answers the same again and makes nothing then; and unless with fewer nodes it stops where the meter does, and what
// was made stays.
func (m making) makes(t *testing.T, at int) {
	t.Helper()
	a := arena.New(nil)
	id := m.of(a)
	was := a.Len()
	got, e := m.call.do(a, id, 0)
	m.areNew(t, at, a, was, len(m.news))
	if want := m.want(a); e != api.OK || got != want || a.Len() != was+len(m.news) || a.Meter().Spent() != a.Len()-2 {
		t.Fatalf("row %d, %s: %d, %v, want %d, in\n%s", at, m.call.name, got, e, want, tellArena(a))
	}
	whole := tellArena(a)
	if again, e := m.call.do(a, id, 0); again != got || e != api.OK || tellArena(a) != whole {
		t.Fatalf("row %d, %s for the second time: %d, %v, want %d", at, m.call.name, again, e, got)
	}
	for left := range m.news {
		a := arena.New(meterOf(t, was-2+left, 8))
		if got, e := m.call.do(a, m.of(a), 0); got != 0 || e != api.ErrNodes || a.Meter().Over() != e {
			t.Fatalf("row %d, %s with %d nodes left: %d, %v", at, m.call.name, left, got, e)
		}
		m.areNew(t, at, a, was, left)
	}
}

// areNew fails unless the nodes of an arena from a number on are the first ones of those that are to be made.
func (m making) areNew(t *testing.T, at int, a *arena.Arena, from, many int) {
	t.Helper()
	if a.Len() != from+many {
		t.Fatalf("row %d, %s: %d made, want %d, in\n%s", at, m.call.name, a.Len()-from, many, tellArena(a))
	}
	for i, f := range m.news[:many] {
		if id := f(a); id != from+i {
			t.Fatalf("row %d, %s: what should be made as number %d is %d, in\n%s", at, m.call.name, from+i, id, tellArena(a))
		}
	}
}

func makeAll(t *testing.T, rows []making) {
	t.Helper()
	for at, m := range rows {
		m.makes(t, at)
	}
}

// stays fails unless a formula is itself far below and far above, and nothing is made for it.
func stays(t *testing.T, forms ...form) {
	t.Helper()
	for at, f := range forms {
		making{low(), f, f, nil}.makes(t, at)
		making{high(), f, f, nil}.makes(t, at)
	}
}

// A side is a formula with its bounds of v0.
type side struct {
	of           form
	lower, upper []api.Term
}

// tells fails unless Bounds of a formula and a variable tells these, and makes nothing.
func tells(t *testing.T, at int, f form, v int, lower, upper []api.Term) {
	t.Helper()
	a := arena.New(nil)
	id := f(a)
	was := tellArena(a)
	gotLower, gotUpper, e := limit.Bounds(a, id, v)
	if e != api.OK || !areTerms(gotLower, lower) || !areTerms(gotUpper, upper) {
		t.Errorf("row %d, v%d: %s, %s, %v, want %s, %s, in\n%s", at, v, tellTerms(gotLower), tellTerms(gotUpper), e, tellTerms(lower), tellTerms(upper), tellArena(a))
	}
	if tellArena(a) != was {
		t.Errorf("row %d, v%d: something was made:\n%s", at, v, tellArena(a))
	}
}

func tellAll(t *testing.T, rows []side) {
	t.Helper()
	for at, r := range rows {
		tells(t, at, r.of, 0, r.lower, r.upper)
	}
}

// deltaIs fails unless Delta of a formula and a variable is that number, and nothing is made.
func deltaIs(t *testing.T, at int, f form, v int, want api.Int) {
	t.Helper()
	a := arena.New(nil)
	id := f(a)
	was := tellArena(a)
	if d, e := limit.Delta(a, id, v); !isInt(d, want) || e != api.OK || tellArena(a) != was {
		t.Errorf("row %d, v%d: %s, %v, want %s, in\n%s", at, v, tellInt(d), e, tellInt(want), tellArena(a))
	}
}

// noBounds fails unless Bounds is refused by that error, and tells nothing.
func noBounds(t *testing.T, a *arena.Arena, id, v int, want api.Errno) {
	t.Helper()
	if lower, upper, e := limit.Bounds(a, id, v); len(lower) > 0 || len(upper) > 0 || e != want {
		t.Errorf("Bounds of %d and v%d: %s, %s, %v, want %v", id, v, tellTerms(lower), tellTerms(upper), e, want)
	}
}

// refuses fails unless all calls of a formula and a variable are refused by that error, and make nothing.
func refuses(t *testing.T, a *arena.Arena, id, v int, want api.Errno) {
	t.Helper()
	was := ""
	if a != nil {
		was = tellArena(a)
	}
	for _, call := range []far{low(), high()} {
		if got, e := call.do(a, id, v); got != 0 || e != want {
			t.Errorf("%s of %d and v%d: %d, %v, want %v", call.name, id, v, got, e, want)
		}
	}
	noBounds(t, a, id, v, want)
	if d, e := limit.Delta(a, id, v); !isInt(d, n(0)) || e != want {
		t.Errorf("Delta of %d and v%d: %s, %v, want %v", id, v, tellInt(d), e, want)
	}
	if a != nil && tellArena(a) != was {
		t.Errorf("of %d and v%d something was made:\n%s", id, v, tellArena(a))
	}
}

// The examples of the chapter.
func TestExamples(t *testing.T) {
	four := div(4, 0, p(0, 1), p(1, 1))
	f := and(xy(1, -1, 0), x(-1, 9), four)
	makeAll(t, []making{{low(), f, never(), nil}, {high(), f, never(), nil}})
	a := arena.New(nil)
	id := f(a)
	was := a.Len()
	got, e := limit.Low(a, id, 1)
	if made := a.Len() - was; got != and(x(-1, 9), four)(a) || e != api.OK || made != 1 {
		t.Errorf("Low of y: %d, %v, %d made", got, e, made)
	}
	tells(t, 0, f, 0, terms(sum(0, p(1, 1))), terms(sum(9)))
	tells(t, 1, f, 1, nil, terms(sum(0, p(0, 1))))
	deltaIs(t, 2, f, 0, n(4))
	deltaIs(t, 3, f, 7, n(1))
	deltaIs(t, 4, xy(2, 1, 0), 0, n(1))
	noBounds(t, a, xy(2, 1, 0)(a), 0, api.ErrArg)
	refuses(t, a, some(0, f)(a), 0, api.ErrQuant)
	refuses(t, a, a.Len(), 0, api.ErrNode)
}
