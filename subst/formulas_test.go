package subst_test

import (
	"math"
	"slices"
	"strconv"
	"strings"
	"testing"

	"riddle/api"
	"riddle/arena"
	"riddle/meter"
	"riddle/subst"
)

const (
	top   = 1<<32 - 1
	least = math.MinInt
	most  = math.MaxInt
	// drawn is how many arenas a test draws.
	drawn = 2000
)

// Numbers, terms and formulas are made here by short calls.

// n is a small number, made without the layers below.
func n(k int) api.Int {
	switch {
	case k == 0:
		return api.Int{}
	case k < 0:
		return api.Int{Neg: true, Mag: []uint32{uint32(-k)}}
	}
	return api.Int{Mag: []uint32{uint32(k)}}
}

// wide is a number of just so many limbs, as small as such a one can be.
func wide(limbs int) api.Int { return api.Int{Mag: append(make([]uint32, limbs-1), 1)} }

// widest is the greatest number of just so many limbs.
func widest(limbs int) api.Int { return api.Int{Mag: slices.Repeat([]uint32{top}, limbs)} }

func opposite(a api.Int) api.Int { return api.Int{Neg: len(a.Mag) > 0 && !a.Neg, Mag: a.Mag} }

func p(v, c int) api.Part { return api.Part{Var: v, C: n(c)} }

func big(v int, c api.Int) api.Part { return api.Part{Var: v, C: c} }

func sum(k int, parts ...api.Part) api.Term { return api.Term{Parts: parts, K: n(k)} }

func constant(k api.Int) api.Term { return api.Term{K: k} }

func val(v, k int) api.Value { return api.Value{Var: v, N: n(k)} }

// A form is a formula that is yet to be laid in an arena, node by node, none of them made simpler.
type form func(a *arena.Arena) int

func atomOf(x api.Atom) form {
	return func(a *arena.Arena) int { return laid(a.Atom(x)) }
}

// laid fails where a test has made a formula that can't be.
func laid(id int, e api.Errno) int {
	if e != api.OK {
		panic(e)
	}
	return id
}

func never() form { return func(*arena.Arena) int { return 0 } }

func always() form { return func(*arena.Arena) int { return 1 } }

func less(k int, parts ...api.Part) form { return bigLess(n(k), parts...) }

func bigLess(k api.Int, parts ...api.Part) form {
	return atomOf(api.Atom{Kind: api.Less, T: api.Term{Parts: parts, K: k}})
}

func div(d, k int, parts ...api.Part) form {
	return atomOf(api.Atom{Kind: api.Div, D: n(d), T: sum(k, parts...)})
}

func not(d, k int, parts ...api.Part) form {
	return atomOf(api.Atom{Kind: api.Not, D: n(d), T: sum(k, parts...)})
}

// x, y and z are shorter ways to say 0 < c v + k, of the variables 0, 1 and 2.

func x(c, k int) form { return less(k, p(0, c)) }

func y(c, k int) form { return less(k, p(1, c)) }

func z(c, k int) form { return less(k, p(2, c)) }

func joined(kind int, kids []form) form {
	return func(a *arena.Arena) int { return laid(a.Join(kind, layAll(a, kids)...)) }
}

func and(kids ...form) form { return joined(api.And, kids) }

func or(kids ...form) form { return joined(api.Or, kids) }

func some(v int, kid form) form {
	return func(a *arena.Arena) int { return laid(a.Bind(api.Some, v, kid(a))) }
}

func all(v int, kid form) form {
	return func(a *arena.Arena) int { return laid(a.Bind(api.All, v, kid(a))) }
}

func layAll(a *arena.Arena, forms []form) []int {
	var ids []int
	for _, f := range forms {
		ids = append(ids, f(a))
	}
	return ids
}

func of(forms ...form) []form { return forms }

// behind is a formula that is laid behind others, so that the numbers of nodes are not in the order of its text.
func behind(first []form, f form) form {
	return func(a *arena.Arena) int {
		layAll(a, first)
		return f(a)
	}
}

// The tellers tell all fields as they stand, limb by limb, so that what differs in anything is told otherwise.

func tellInt(a api.Int) string {
	var b strings.Builder
	if a.Neg {
		b.WriteString("-")
	}
	for _, limb := range a.Mag {
		b.WriteString("'" + strconv.FormatUint(uint64(limb), 10))
	}
	return b.String()
}

func tellTerm(t api.Term) string {
	var b strings.Builder
	for _, q := range t.Parts {
		b.WriteString(tellInt(q.C) + " v" + strconv.Itoa(q.Var) + " + ")
	}
	return b.String() + tellInt(t.K)
}

func tellAtom(x api.Atom) string {
	return "[kind " + strconv.Itoa(x.Kind) + ", " + tellInt(x.D) + ", " + tellTerm(x.T) + "]"
}

func tellValues(vals []api.Value) string {
	var texts []string
	for _, v := range vals {
		texts = append(texts, "v"+strconv.Itoa(v.Var)+" is "+tellInt(v.N))
	}
	return strings.Join(texts, ", ")
}

func tellList(l []int) string {
	var texts []string
	for _, id := range l {
		texts = append(texts, strconv.Itoa(id))
	}
	return "(" + strings.Join(texts, ", ") + ")"
}

func tellNode(x api.Node) string {
	return tellAtom(api.Atom{Kind: x.Kind, D: x.D, T: x.T}) + " v" + strconv.Itoa(x.Var) + " " + tellList(x.Kids)
}

// tellArena tells all nodes in the order in which they were made, and the meter.
func tellArena(a *arena.Arena) string {
	var b strings.Builder
	for id := range a.Len() {
		b.WriteString(strconv.Itoa(id) + " " + tellNode(whole(a, id)) + "\n")
	}
	return b.String() + strconv.Itoa(a.Meter().Spent()) + " " + a.Meter().Over().Error()
}

// short cuts what would fill pages.
func short(text string) string {
	if len(text) > 3000 {
		return text[:3000] + ".."
	}
	return text
}

// whole is all of a formula's node; the tests ask it of numbers that are there.
func whole(a *arena.Arena, id int) api.Node {
	node, _ := a.Node(id)
	return node
}

func meterOf(t *testing.T, nodes, limbs int) *meter.Meter {
	t.Helper()
	m, e := meter.New(nodes, limbs)
	if m == nil || e != api.OK {
		t.Fatalf("meter.New(%d, %d): %v", nodes, limbs, e)
	}
	return m
}

// A call is one of the three, with all that it is given but for the arena.
type call struct {
	text string
	do   func(a *arena.Arena, id int) (int, api.Errno)
}

func put(v int, t api.Term) call {
	return call{"Put v" + strconv.Itoa(v) + ", " + tellTerm(t), func(a *arena.Arena, id int) (int, api.Errno) { return subst.Put(a, id, v, t) }}
}

func instance(vals ...api.Value) call {
	return call{"Instance " + tellValues(vals), func(a *arena.Arena, id int) (int, api.Errno) { return subst.Instance(a, id, vals) }}
}

func mapped(f func(api.Atom) api.Atom) call {
	return call{"Map", func(a *arena.Arena, id int) (int, api.Errno) { return subst.Map(a, id, f) }}
}

// same leaves each atom.
func same(x api.Atom) api.Atom { return x }

// A making is what a call is asked of, what is to come of it, and what is to be made on the way, in that order.
type making struct {
	call     call
	of, want form
	news     []form
}

// makes fails unless a call answers what it should and makes just what it should, in its order; unless it answers the same
// again and makes nothing then; and unless with fewer nodes it stops where the meter does, and what was made stays.
func (m making) makes(t *testing.T, at int) {
	t.Helper()
	a := arena.New(nil)
	id := m.of(a)
	was := a.Len()
	got, e := m.call.do(a, id)
	m.areNew(t, at, a, was, len(m.news))
	if want := m.want(a); e != api.OK || got != want || a.Len() != was+len(m.news) {
		t.Fatalf("row %d, %s: %d, %v, want %d, in\n%s", at, m.call.text, got, e, want, tellArena(a))
	}
	whole := tellArena(a)
	if again, e := m.call.do(a, id); again != got || e != api.OK || tellArena(a) != whole {
		t.Fatalf("row %d, %s, for the second time: %d, %v, want %d", at, m.call.text, again, e, got)
	}
	for left := range m.news {
		if was+left < 3 {
			continue
		}
		a := arena.New(meterOf(t, was-2+left, 8))
		if got, e := m.call.do(a, m.of(a)); got != 0 || e != api.ErrNodes || a.Meter().Over() != e {
			t.Fatalf("row %d, %s, with %d nodes left: %d, %v", at, m.call.text, left, got, e)
		}
		m.areNew(t, at, a, was, left)
	}
}

// areNew fails unless the nodes of an arena from a number on are the first ones of those that are to be made.
func (m making) areNew(t *testing.T, at int, a *arena.Arena, from, many int) {
	t.Helper()
	if a.Len() != from+many {
		t.Fatalf("row %d, %s: %d made, want %d, in\n%s", at, m.call.text, a.Len()-from, many, tellArena(a))
	}
	for i, f := range m.news[:many] {
		if id := f(a); id != from+i {
			t.Fatalf("row %d, %s: what should be made as number %d is %d, in\n%s", at, m.call.text, from+i, id, tellArena(a))
		}
	}
}

func makeAll(t *testing.T, rows []making) {
	t.Helper()
	for at, m := range rows {
		m.makes(t, at)
	}
}

// itself is a formula of which a call answers the formula, and makes nothing.
func itself(c call, f form) making { return making{c, f, f, nil} }

// refuses fails unless a call of a formula is refused by that error, and makes nothing.
func refuses(t *testing.T, c call, f form, want api.Errno) {
	t.Helper()
	a := arena.New(nil)
	id := f(a)
	was := tellArena(a)
	if got, e := c.do(a, id); got != 0 || e != want || tellArena(a) != was {
		t.Errorf("%s: %d, %v, want %v, in\n%s", c.text, got, e, want, tellArena(a))
	}
}

// The examples of the chapter.
func TestExamples(t *testing.T) {
	f := and(less(0, p(0, 1), p(1, -1)), div(2, 0, p(0, 1)))
	g := some(1, f)
	xAndTwo := and(less(2, p(0, 1), p(1, -1)), div(2, 0, p(0, 1)))
	makeAll(t, []making{
		{put(0, sum(1, p(1, 1))), f, div(2, 1, p(1, 1)), of(div(2, 1, p(1, 1)))},
		{put(0, sum(4)), f, y(-1, 4), of(y(-1, 4))},
		{put(1, sum(0, p(0, 1))), f, never(), nil},
		{put(0, sum(5)), g, some(1, never()), of(y(-1, 5), some(1, never()))},
		itself(put(1, sum(7)), g),
		{put(0, sum(2, p(0, 1))), g, some(1, xAndTwo), of(less(2, p(0, 1), p(1, -1)), xAndTwo, some(1, xAndTwo))},
		{instance(val(0, 4), val(1, 3)), f, always(), of(y(-1, 4))},
		{instance(val(1, 0), val(0, 3)), f, never(), of(x(1, 0), and(x(1, 0), div(2, 0, p(0, 1))))},
		itself(instance(), f),
		itself(mapped(same), f),
	})
	refuses(t, put(0, sum(0, p(1, 1))), g, api.ErrBound)
	refuses(t, mapped(nil), f, api.ErrArg)
	refuses(t, mapped(same), g, api.ErrQuant)
	refuses(t, mapped(func(api.Atom) api.Atom { return api.Atom{Kind: 9} }), f, api.ErrArg)
}
