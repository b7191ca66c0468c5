package drive_test

import (
	"math"
	"slices"
	"strconv"
	"strings"
	"testing"

	"riddle/api"
	"riddle/arena"
	"riddle/drive"
	"riddle/meter"
)

const (
	top   = 1<<32 - 1
	least = math.MinInt
	most  = math.MaxInt
	// drawn is how many arenas a test draws.
	drawn = 4000
)

// Numbers and formulas are made here by short calls.

// n is a small number, made without the layers below.
func n(k int) api.Int {
	switch {
	case k == 0:
		return api.Int{}
	case k < 0:
		return api.Int{Neg: true, Mag: []uint32{uint32(-k)}}
	}
	return api.Int{Mag: []uint32{uint32(k)}}
}

// widest is the greatest number of just so many limbs, but for a little.
func widest(limbs, less int) api.Int {
	a := api.Int{Mag: slices.Repeat([]uint32{top}, limbs)}
	a.Mag[0] -= uint32(less)
	return a
}

func opposite(a api.Int) api.Int { return api.Int{Neg: len(a.Mag) > 0 && !a.Neg, Mag: a.Mag} }

func p(v, c int) api.Part { return api.Part{Var: v, C: n(c)} }

func big(v int, c api.Int) api.Part { return api.Part{Var: v, C: c} }

// A form is a formula that is yet to be laid in an arena, node by node, none of them made simpler.
type form func(a *arena.Arena) int

func atomOf(kind int, d, k api.Int, parts []api.Part) form {
	return func(a *arena.Arena) int {
		return laid(a.Atom(api.Atom{Kind: kind, D: d, T: api.Term{Parts: parts, K: k}}))
	}
}

// laid fails where a test has made a formula that can't be.
func laid(id int, e api.Errno) int {
	if e != api.OK {
		panic(e)
	}
	return id
}

func never() form { return func(*arena.Arena) int { return 0 } }

func always() form { return func(*arena.Arena) int { return 1 } }

func less(k int, parts ...api.Part) form { return atomOf(api.Less, n(0), n(k), parts) }

func bigLess(k api.Int, parts ...api.Part) form { return atomOf(api.Less, n(0), k, parts) }

func div(d, k int, parts ...api.Part) form { return atomOf(api.Div, n(d), n(k), parts) }

func not(d, k int, parts ...api.Part) form { return atomOf(api.Not, n(d), n(k), parts) }

// x and y are shorter ways to say 0 < c v + k, of the variables 0 and 1; xy is 0 < c v0 + e v1 + k, and so on.

func x(c, k int) form { return less(k, p(0, c)) }

func y(c, k int) form { return less(k, p(1, c)) }

func xy(c, e, k int) form { return less(k, p(0, c), p(1, e)) }

func xz(c, e, k int) form { return less(k, p(0, c), p(2, e)) }

func yz(c, e, k int) form { return less(k, p(1, c), p(2, e)) }

func z(c, k int) form { return less(k, p(2, c)) }

func w(c, k int) form { return less(k, p(3, c)) }

func joined(kind int, kids []form) form {
	return func(a *arena.Arena) int { return laid(a.Join(kind, layAll(a, kids)...)) }
}

func and(kids ...form) form { return joined(api.And, kids) }

func or(kids ...form) form { return joined(api.Or, kids) }

func some(v int, kid form) form {
	return func(a *arena.Arena) int { return laid(a.Bind(api.Some, v, kid(a))) }
}

func all(v int, kid form) form {
	return func(a *arena.Arena) int { return laid(a.Bind(api.All, v, kid(a))) }
}

func layAll(a *arena.Arena, forms []form) []int {
	var ids []int
	for _, f := range forms {
		ids = append(ids, f(a))
	}
	return ids
}

func of(forms ...form) []form { return forms }

// behind is a formula that is laid behind others, so that the numbers of nodes are not in the order of its text.
func behind(first []form, f form) form {
	return func(a *arena.Arena) int {
		layAll(a, first)
		return f(a)
	}
}

// The tellers tell all fields as they stand, limb by limb, so that what differs in anything is told otherwise.

func tellInt(a api.Int) string {
	var b strings.Builder
	if a.Neg {
		b.WriteString("-")
	}
	for _, limb := range a.Mag {
		b.WriteString("'" + strconv.FormatUint(uint64(limb), 10))
	}
	return b.String()
}

func tellTerm(t api.Term) string {
	var b strings.Builder
	for _, q := range t.Parts {
		b.WriteString(tellInt(q.C) + " v" + strconv.Itoa(q.Var) + " + ")
	}
	return b.String() + tellInt(t.K)
}

func tellNode(x api.Node) string {
	var texts []string
	for _, kid := range x.Kids {
		texts = append(texts, strconv.Itoa(kid))
	}
	return "[kind " + strconv.Itoa(x.Kind) + ", " + tellInt(x.D) + ", " + tellTerm(x.T) + "] v" + strconv.Itoa(x.Var) + " (" + strings.Join(texts, ", ") + ")"
}

// tellNodes tells the first nodes of an arena, in the order in which they were made.
func tellNodes(a *arena.Arena, many int) string {
	var b strings.Builder
	for id := range many {
		b.WriteString(strconv.Itoa(id) + " " + tellNode(whole(a, id)) + "\n")
	}
	return b.String()
}

// tellArena tells all nodes and the meter.
func tellArena(a *arena.Arena) string {
	return tellNodes(a, a.Len()) + strconv.Itoa(a.Meter().Spent()) + " " + a.Meter().Over().Error()
}

func tellStep(s api.Step) string {
	return "{v" + strconv.Itoa(s.Var) + ", L " + tellInt(s.L) + ", Delta " + tellInt(s.Delta) + ", high " + strconv.FormatBool(s.High) +
		", " + strconv.Itoa(s.Bounds) + " bounds, " + strconv.Itoa(s.Points) + " points}"
}

// An answer is all that a call gives back.
type answer struct {
	id    int
	steps []api.Step
	e     api.Errno
}

func (s answer) String() string {
	var texts []string
	for _, step := range s.steps {
		texts = append(texts, tellStep(step))
	}
	return strconv.Itoa(s.id) + ", [" + strings.Join(texts, ", ") + "], " + s.e.Error()
}

// points are how many test points all steps together have.
func (s answer) points() int {
	sum := 0
	for _, step := range s.steps {
		sum += step.Points
	}
	return sum
}

// short cuts what would fill pages.
func short(text string) string {
	if len(text) > 3000 {
		return text[:3000] + ".."
	}
	return text
}

// whole is all of a formula's node; the tests ask it of numbers that are there.
func whole(a *arena.Arena, id int) api.Node {
	node, _ := a.Node(id)
	return node
}

func meterOf(t *testing.T, nodes, limbs int) *meter.Meter {
	t.Helper()
	m, e := meter.New(nodes, limbs)
	if m == nil || e != api.OK {
		t.Fatalf("meter.New(%d, %d): %v", nodes, limbs, e)
	}
	return m
}

// A call is one of the two; Run takes no variable.
type call struct {
	name string
	do   func(a *arena.Arena, id, v int) (int, []api.Step, api.Errno)
}

func someOf() call { return call{"Some", drive.Some} }

func runOf() call {
	return call{"Run", func(a *arena.Arena, id, _ int) (int, []api.Step, api.Errno) { return drive.Run(a, id) }}
}

func calls() []call { return []call{someOf(), runOf()} }

func (c call) answer(a *arena.Arena, id, v int) answer {
	got, steps, e := c.do(a, id, v)
	return answer{got, steps, e}
}

// An act is what a call does and the meter counts: a node that is made, or, without one, a point that is spent.
type act struct{ node form }

// points are several, for which nothing is made.
func points(many int) []act { return make([]act, many) }

func made(forms ...form) []act {
	var acts []act
	for _, f := range forms {
		acts = append(acts, act{f})
	}
	return acts
}

// at is a point, with what is made for it.
func at(forms ...form) []act { return append(points(1), made(forms...)...) }

func acts(rows ...[]act) []act { return slices.Concat(rows...) }

// nodesOf are the forms of the nodes among acts.
func nodesOf(l []act) []form {
	var forms []form
	for _, one := range l {
		if one.node != nil {
			forms = append(forms, one.node)
		}
	}
	return forms
}

// stepOf is a step in which a variable has the coefficients 1 and -1 alone, and no divisor.
func stepOf(v int, high bool, bounds, points int) api.Step {
	return api.Step{Var: v, L: n(1), Delta: n(1), High: high, Bounds: bounds, Points: points}
}

// A making is a formula, what a call of it and v0 is to answer, and what is to be done on the way, in that order.
type making struct {
	call     call
	of, want form
	steps    []api.Step
	acts     []act
}

// makes fails unless a call answers what it should and does just what it should, in its order, each counted once; unless
// it answers the same again and makes nothing then; and unless with less in the meter it stops where the meter does, and
// what was done stays.
func (m making) makes(t *testing.T, row int) {
	t.Helper()
	a := arena.New(nil)
	id := m.of(a)
	was, spent := a.Len(), a.Meter().Spent()
	got := m.call.answer(a, id, 0)
	m.areDone(t, row, a, was, len(m.acts))
	want := answer{m.want(a), m.steps, api.OK}
	if got.String() != want.String() || a.Meter().Spent() != spent+len(m.acts) {
		t.Fatalf("row %d, %s: %s, want %s, in\n%s", row, m.call.name, got, want, tellArena(a))
	}
	nodes := tellNodes(a, a.Len())
	again := m.call.answer(a, id, 0)
	if again.String() != want.String() || tellNodes(a, a.Len()) != nodes || a.Meter().Spent() != spent+len(m.acts)+want.points() {
		t.Fatalf("row %d, %s for the second time: %s, want %s, in\n%s", row, m.call.name, again, want, tellArena(a))
	}
	for left := range m.acts {
		a := arena.New(meterOf(t, spent+left, 8))
		got := m.call.answer(a, m.of(a), 0)
		if want := (answer{e: api.ErrNodes}); got.String() != want.String() || a.Meter().Over() != api.ErrNodes || a.Meter().Spent() != spent+left {
			t.Fatalf("row %d, %s with %d left: %s, in\n%s", row, m.call.name, left, got, tellArena(a))
		}
		m.areDone(t, row, a, was, left)
	}
}

// areDone fails unless the nodes of an arena from a number on are those among the first acts.
func (m making) areDone(t *testing.T, row int, a *arena.Arena, from, many int) {
	t.Helper()
	nodes := nodesOf(m.acts[:many])
	if a.Len() != from+len(nodes) {
		t.Fatalf("row %d, %s, %d acts: %d made, want %d, in\n%s", row, m.call.name, many, a.Len()-from, len(nodes), tellArena(a))
	}
	for i, f := range nodes {
		if id := f(a); id != from+i {
			t.Fatalf("row %d, %s, %d acts: what should be made as number %d is %d, in\n%s", row, m.call.name, many, from+i, id, tellArena(a))
		}
	}
}

func makeAll(t *testing.T, rows []making) {
	t.Helper()
	for row, m := range rows {
		m.makes(t, row)
	}
}

// refuses fails unless a call of a formula and a variable is refused by that error, and neither makes nor spends.
func (c call) refuses(t *testing.T, a *arena.Arena, id, v int, want api.Errno) {
	t.Helper()
	was := ""
	if a != nil {
		was = tellArena(a)
	}
	if got := c.answer(a, id, v); got.String() != (answer{e: want}).String() {
		t.Errorf("%s of %d and v%d: %s, want %v", c.name, id, v, got, want)
	}
	if a != nil && tellArena(a) != was {
		t.Errorf("%s of %d and v%d: something was made:\n%s", c.name, id, v, tellArena(a))
	}
}
