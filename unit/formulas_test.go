package unit_test

import (
	"math"
	"slices"
	"strconv"
	"strings"
	"testing"

	"riddle/api"
	"riddle/arena"
	"riddle/meter"
	"riddle/unit"
)

const (
	top   = 1<<32 - 1
	least = math.MinInt
	most  = math.MaxInt
	// drawn is how many arenas a test draws.
	drawn = 2000
)

// Numbers, terms and formulas are made here by short calls.

// n is a small number, made without the layers below.
func n(k int) api.Int {
	switch {
	case k == 0:
		return api.Int{}
	case k < 0:
		return api.Int{Neg: true, Mag: []uint32{uint32(-k)}}
	}
	return api.Int{Mag: []uint32{uint32(k)}}
}

// limbs is a number above 0, the least limb first.
func limbs(l ...uint32) api.Int { return api.Int{Mag: l} }

// wide is a number of just so many limbs, as small as such a one can be.
func wide(limbs int) api.Int { return api.Int{Mag: append(make([]uint32, limbs-1), 1)} }

// widest is the greatest number of just so many limbs.
func widest(limbs int) api.Int { return api.Int{Mag: slices.Repeat([]uint32{top}, limbs)} }

func opposite(a api.Int) api.Int { return api.Int{Neg: len(a.Mag) > 0 && !a.Neg, Mag: a.Mag} }

func p(v, c int) api.Part { return api.Part{Var: v, C: n(c)} }

func big(v int, c api.Int) api.Part { return api.Part{Var: v, C: c} }

// A form is a formula that is yet to be laid in an arena, node by node, none of them made simpler.
type form func(a *arena.Arena) int

func atomOf(kind int, d, k api.Int, parts []api.Part) form {
	return func(a *arena.Arena) int {
		return laid(a.Atom(api.Atom{Kind: kind, D: d, T: api.Term{Parts: parts, K: k}}))
	}
}

// laid fails where a test has made a formula that can't be.
func laid(id int, e api.Errno) int {
	if e != api.OK {
		panic(e)
	}
	return id
}

func never() form { return func(*arena.Arena) int { return 0 } }

func always() form { return func(*arena.Arena) int { return 1 } }

func less(k int, parts ...api.Part) form { return atomOf(api.Less, n(0), n(k), parts) }

func bigLess(k api.Int, parts ...api.Part) form { return atomOf(api.Less, n(0), k, parts) }

func div(d, k int, parts ...api.Part) form { return atomOf(api.Div, n(d), n(k), parts) }

func bigDiv(d, k api.Int, parts ...api.Part) form { return atomOf(api.Div, d, k, parts) }

func not(d, k int, parts ...api.Part) form { return atomOf(api.Not, n(d), n(k), parts) }

// x and y are shorter ways to say 0 < c v + k, of the variables 0 and 1; xy is 0 < c v0 + e v1 + k. (0 < 2 v0 + k could
// not stand so: its form has the coefficient 1.)

func x(c, k int) form { return less(k, p(0, c)) }

func y(c, k int) form { return less(k, p(1, c)) }

func xy(c, e, k int) form { return less(k, p(0, c), p(1, e)) }

func joined(kind int, kids []form) form {
	return func(a *arena.Arena) int { return laid(a.Join(kind, layAll(a, kids)...)) }
}

func and(kids ...form) form { return joined(api.And, kids) }

func or(kids ...form) form { return joined(api.Or, kids) }

func some(v int, kid form) form {
	return func(a *arena.Arena) int { return laid(a.Bind(api.Some, v, kid(a))) }
}

func all(v int, kid form) form {
	return func(a *arena.Arena) int { return laid(a.Bind(api.All, v, kid(a))) }
}

func layAll(a *arena.Arena, forms []form) []int {
	var ids []int
	for _, f := range forms {
		ids = append(ids, f(a))
	}
	return ids
}

func of(forms ...form) []form { return forms }

// behind is a formula that is laid behind others, so that the numbers of nodes are not in the order of its text.
func behind(first []form, f form) form {
	return func(a *arena.Arena) int {
		layAll(a, first)
		return f(a)
	}
}

// The tellers tell all fields as they stand, limb by limb, so that what differs in anything is told otherwise.

func tellInt(a api.Int) string {
	var b strings.Builder
	if a.Neg {
		b.WriteString("-")
	}
	for _, limb := range a.Mag {
		b.WriteString("'" + strconv.FormatUint(uint64(limb), 10))
	}
	return b.String()
}

func tellTerm(t api.Term) string {
	var b strings.Builder
	for _, q := range t.Parts {
		b.WriteString(tellInt(q.C) + " v" + strconv.Itoa(q.Var) + " + ")
	}
	return b.String() + tellInt(t.K)
}

func tellList(l []int) string {
	var texts []string
	for _, id := range l {
		texts = append(texts, strconv.Itoa(id))
	}
	return "(" + strings.Join(texts, ", ") + ")"
}

func tellNode(x api.Node) string {
	return "[kind " + strconv.Itoa(x.Kind) + ", " + tellInt(x.D) + ", " + tellTerm(x.T) + "] v" + strconv.Itoa(x.Var) + " " + tellList(x.Kids)
}

// tellArena tells all nodes in the order in which they were made, and the meter.
func tellArena(a *arena.Arena) string {
	var b strings.Builder
	for id := range a.Len() {
		b.WriteString(strconv.Itoa(id) + " " + tellNode(whole(a, id)) + "\n")
	}
	return b.String() + strconv.Itoa(a.Meter().Spent()) + " " + a.Meter().Over().Error()
}

// short cuts what would fill pages.
func short(text string) string {
	if len(text) > 3000 {
		return text[:3000] + ".."
	}
	return text
}

// whole is all of a formula's node; the tests ask it of numbers that are there.
func whole(a *arena.Arena, id int) api.Node {
	node, _ := a.Node(id)
	return node
}

// isInt tells whether a number is another one, and stands as it should.
func isInt(got, want api.Int) bool { return tellInt(got) == tellInt(want) }

func meterOf(t *testing.T, nodes, limbs int) *meter.Meter {
	t.Helper()
	m, e := meter.New(nodes, limbs)
	if m == nil || e != api.OK {
		t.Fatalf("meter.New(%d, %d): %v", nodes, limbs, e)
	}
	return m
}

// A making is a formula, what Unit of it and v0 is to answer, and what is to be made on the way, in that order.
type making struct {
	of   form
	l    api.Int
	want form
	news []form
}

// makes fails unless Unit answers what it should and makes just what it should, in its order; unless it answers the same
// again and makes nothing then; unless Lcm answers the same number and makes nothing; and unless with fewer nodes Unit
// stops where the meter does, and what was made stays.
func (m making) makes(t *testing.T, at int) {
	t.Helper()
	a := arena.New(nil)
	id := m.of(a)
	was, ahead := a.Len(), tellArena(a)
	if l, e := unit.Lcm(a, id, 0); !isInt(l, m.l) || e != api.OK || tellArena(a) != ahead {
		t.Fatalf("row %d: Lcm is %s, %v, want %s, in\n%s", at, tellInt(l), e, tellInt(m.l), tellArena(a))
	}
	got, l, e := unit.Unit(a, id, 0)
	m.areNew(t, at, a, was, len(m.news))
	if want := m.want(a); e != api.OK || got != want || !isInt(l, m.l) || a.Len() != was+len(m.news) {
		t.Fatalf("row %d: %d, %s, %v, want %d, %s, in\n%s", at, got, tellInt(l), e, want, tellInt(m.l), tellArena(a))
	}
	whole := tellArena(a)
	if again, l, e := unit.Unit(a, id, 0); again != got || e != api.OK || !isInt(l, m.l) || tellArena(a) != whole {
		t.Fatalf("row %d, for the second time: %d, %s, %v, want %d", at, again, tellInt(l), e, got)
	}
	for left := range m.news {
		if was+left < 3 {
			continue
		}
		a := arena.New(meterOf(t, was-2+left, 8))
		if got, l, e := unit.Unit(a, m.of(a), 0); got != 0 || !isInt(l, n(0)) || e != api.ErrNodes || a.Meter().Over() != e {
			t.Fatalf("row %d, with %d nodes left: %d, %s, %v", at, left, got, tellInt(l), e)
		}
		m.areNew(t, at, a, was, left)
	}
}

// areNew fails unless the nodes of an arena from a number on are the first ones of those that are to be made.
func (m making) areNew(t *testing.T, at int, a *arena.Arena, from, many int) {
	t.Helper()
	if a.Len() != from+many {
		t.Fatalf("row %d: %d made, want %d, in\n%s", at, a.Len()-from, many, tellArena(a))
	}
	for i, f := range m.news[:many] {
		if id := f(a); id != from+i {
			t.Fatalf("row %d: what should be made as number %d is %d, in\n%s", at, from+i, id, tellArena(a))
		}
	}
}

func makeAll(t *testing.T, rows []making) {
	t.Helper()
	for at, m := range rows {
		m.makes(t, at)
	}
}

// itself is a formula with the L 1 that is answered as it is.
func itself(f form) making { return making{f, n(1), f, nil} }

// refuses fails unless both calls of a formula and a variable are refused by that error, and make nothing.
func refuses(t *testing.T, a *arena.Arena, id, v int, want api.Errno) {
	t.Helper()
	was := ""
	if a != nil {
		was = tellArena(a)
	}
	if l, e := unit.Lcm(a, id, v); !isInt(l, n(0)) || e != want {
		t.Errorf("Lcm of %d and v%d: %s, %v, want %v", id, v, tellInt(l), e, want)
	}
	if got, l, e := unit.Unit(a, id, v); got != 0 || !isInt(l, n(0)) || e != want {
		t.Errorf("Unit of %d and v%d: %d, %s, %v, want %v", id, v, got, tellInt(l), e, want)
	}
	if a != nil && tellArena(a) != was {
		t.Errorf("of %d and v%d something was made:\n%s", id, v, tellArena(a))
	}
}

// The examples of the chapter.
func TestExamples(t *testing.T) {
	makeAll(t, []making{
		{and(xy(2, -1, 0), x(-1, 3)), n(2), and(xy(1, -1, 0), x(-1, 6), div(2, 0, p(0, 1))),
			of(xy(1, -1, 0), x(-1, 6), and(xy(1, -1, 0), x(-1, 6)), div(2, 0, p(0, 1)), and(xy(1, -1, 0), x(-1, 6), div(2, 0, p(0, 1))))},
		itself(y(1, 0)),
		{and(xy(3, 2, 0), div(5, 1, p(0, 2))), n(6), and(xy(1, 4, 0), div(15, 3, p(0, 1)), div(6, 0, p(0, 1))),
			of(xy(1, 4, 0), div(15, 3, p(0, 1)), and(xy(1, 4, 0), div(15, 3, p(0, 1))), div(6, 0, p(0, 1)), and(xy(1, 4, 0), div(15, 3, p(0, 1)), div(6, 0, p(0, 1))))},
	})
	a := arena.New(nil)
	refuses(t, a, some(0, xy(1, 1, 0))(a), 0, api.ErrQuant)
	refuses(t, a, 99, 0, api.ErrNode)
}
