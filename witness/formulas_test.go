package witness_test

import (
	"math"
	"slices"
	"strconv"
	"strings"
	"testing"

	"riddle/api"
	"riddle/arena"
	"riddle/meter"
	"riddle/witness"
)

const (
	top   = 1<<32 - 1
	least = math.MinInt
	most  = math.MaxInt
	// drawn is how many arenas a test draws.
	drawn = 2500
)

// Numbers, values and formulas are made here by short calls.

// n is a small number, made without the layers below.
func n(k int) api.Int {
	switch {
	case k == 0:
		return api.Int{}
	case k < 0:
		return api.Int{Neg: true, Mag: []uint32{uint32(-k)}}
	}
	return api.Int{Mag: []uint32{uint32(k)}}
}

// wide is a number of just so many limbs, as small as such a one can be, and a little more.
func wide(limbs, more int) api.Int {
	a := api.Int{Mag: append(make([]uint32, limbs-1), 1)}
	a.Mag[0] += uint32(more)
	return a
}

// widest is the greatest number of just so many limbs, but for a little.
func widest(limbs, less int) api.Int {
	a := api.Int{Mag: slices.Repeat([]uint32{top}, limbs)}
	a.Mag[0] -= uint32(less)
	return a
}

func opposite(a api.Int) api.Int { return api.Int{Neg: len(a.Mag) > 0 && !a.Neg, Mag: a.Mag} }

func p(v, c int) api.Part { return api.Part{Var: v, C: n(c)} }

func big(v int, c api.Int) api.Part { return api.Part{Var: v, C: c} }

func val(v, k int) api.Value { return api.Value{Var: v, N: n(k)} }

func bigVal(v int, k api.Int) api.Value { return api.Value{Var: v, N: k} }

func vals(l ...api.Value) []api.Value { return l }

func vars(l ...int) []int { return l }

func numbers(l ...int) []api.Int {
	var all []api.Int
	for _, k := range l {
		all = append(all, n(k))
	}
	return all
}

func bigs(l ...api.Int) []api.Int { return l }

// A form is a formula that is yet to be laid in an arena, node by node, none of them made simpler.
type form func(a *arena.Arena) int

func atomOf(kind int, d, k api.Int, parts []api.Part) form {
	return func(a *arena.Arena) int {
		return laid(a.Atom(api.Atom{Kind: kind, D: d, T: api.Term{Parts: parts, K: k}}))
	}
}

// laid fails where a test has made a formula that can't be.
func laid(id int, e api.Errno) int {
	if e != api.OK {
		panic(e)
	}
	return id
}

func never() form { return func(*arena.Arena) int { return 0 } }

func always() form { return func(*arena.Arena) int { return 1 } }

func less(k int, parts ...api.Part) form { return atomOf(api.Less, n(0), n(k), parts) }

func bigLess(k api.Int, parts ...api.Part) form { return atomOf(api.Less, n(0), k, parts) }

func div(d, k int, parts ...api.Part) form { return atomOf(api.Div, n(d), n(k), parts) }

func bigDiv(d, k api.Int, parts ...api.Part) form { return atomOf(api.Div, d, k, parts) }

func not(d, k int, parts ...api.Part) form { return atomOf(api.Not, n(d), n(k), parts) }

// x, y and z are shorter ways to say 0 < c v + k, of the variables 0, 1 and 2; xy is 0 < c v0 + e v1 + k, and so on.

func x(c, k int) form { return less(k, p(0, c)) }

func y(c, k int) form { return less(k, p(1, c)) }

func z(c, k int) form { return less(k, p(2, c)) }

func xy(c, e, k int) form { return less(k, p(0, c), p(1, e)) }

func xz(c, e, k int) form { return less(k, p(0, c), p(2, e)) }

func yz(c, e, k int) form { return less(k, p(1, c), p(2, e)) }

// above and upTo say it of v0, and divides that a number does divide v0 + k, or that it doesn't.

func above(k int) form { return x(1, -k) }

func upTo(k int) form { return x(-1, k+1) }

func divides(d, k int) form { return div(d, k, p(0, 1)) }

func doesnt(d, k int) form { return not(d, k, p(0, 1)) }

// equal says that a term is 0.
func equal(k int, parts ...api.Part) form {
	var turned []api.Part
	for _, q := range parts {
		turned = append(turned, api.Part{Var: q.Var, C: opposite(q.C)})
	}
	return and(less(k+1, parts...), less(1-k, turned...))
}

func joined(kind int, kids []form) form {
	return func(a *arena.Arena) int { return laid(a.Join(kind, layAll(a, kids)...)) }
}

func and(kids ...form) form { return joined(api.And, kids) }

func or(kids ...form) form { return joined(api.Or, kids) }

func some(v int, kid form) form {
	return func(a *arena.Arena) int { return laid(a.Bind(api.Some, v, kid(a))) }
}

func all(v int, kid form) form {
	return func(a *arena.Arena) int { return laid(a.Bind(api.All, v, kid(a))) }
}

func layAll(a *arena.Arena, forms []form) []int {
	var ids []int
	for _, f := range forms {
		ids = append(ids, f(a))
	}
	return ids
}

func of(forms ...form) []form { return forms }

// behind is a formula that is laid behind others, so that the numbers of nodes are not in the order of its text.
func behind(first []form, f form) form {
	return func(a *arena.Arena) int {
		layAll(a, first)
		return f(a)
	}
}

// The tellers tell all fields as they stand, limb by limb, so that what differs in anything is told otherwise.

func tellInt(a api.Int) string {
	var b strings.Builder
	if a.Neg {
		b.WriteString("-")
	}
	for _, limb := range a.Mag {
		b.WriteString("'" + strconv.FormatUint(uint64(limb), 10))
	}
	return b.String()
}

func tellInts(l []api.Int) string {
	var texts []string
	for _, a := range l {
		texts = append(texts, tellInt(a))
	}
	return "(" + strings.Join(texts, ", ") + ")"
}

func tellTerm(t api.Term) string {
	var b strings.Builder
	for _, q := range t.Parts {
		b.WriteString(tellInt(q.C) + " v" + strconv.Itoa(q.Var) + " + ")
	}
	return b.String() + tellInt(t.K)
}

func tellNode(x api.Node) string {
	return "[kind " + strconv.Itoa(x.Kind) + ", " + tellInt(x.D) + ", " + tellTerm(x.T) + "] v" + strconv.Itoa(x.Var) + " " + tellNumbers(x.Kids)
}

func tellNumbers(l []int) string {
	var texts []string
	for _, k := range l {
		texts = append(texts, strconv.Itoa(k))
	}
	return "(" + strings.Join(texts, ", ") + ")"
}

// tellNodes tells the first nodes of an arena, in the order in which they were made.
func tellNodes(a *arena.Arena, many int) string {
	var b strings.Builder
	for id := range many {
		b.WriteString(strconv.Itoa(id) + " " + tellNode(whole(a, id)) + "\n")
	}
	return b.String()
}

// tellArena tells all nodes and the meter; of a nil arena nothing.
func tellArena(a *arena.Arena) string {
	if a == nil {
		return ""
	}
	return tellNodes(a, a.Len()) + strconv.Itoa(a.Meter().Spent()) + " " + a.Meter().Over().Error()
}

func tellVals(l []api.Value) string {
	var texts []string
	for _, value := range l {
		texts = append(texts, "v"+strconv.Itoa(value.Var)+" is "+tellInt(value.N))
	}
	return "(" + strings.Join(texts, ", ") + ")"
}

// short cuts what would fill pages.
func short(text string) string {
	if len(text) > 3000 {
		return text[:3000] + ".."
	}
	return text
}

// whole is all of a formula's node; the tests ask it of numbers that are there.
func whole(a *arena.Arena, id int) api.Node {
	node, _ := a.Node(id)
	return node
}

func meterOf(t *testing.T, nodes, limbs int) *meter.Meter {
	t.Helper()
	m, e := meter.New(nodes, limbs)
	if m == nil || e != api.OK {
		t.Fatalf("meter.New(%d, %d): %v", nodes, limbs, e)
	}
	return m
}

// An answer is all that a call gives back; of One the list has one number, also where there is none.
type answer struct {
	list []api.Int
	is   bool
	e    api.Errno
}

func (s answer) String() string {
	return tellInts(s.list) + ", " + strconv.FormatBool(s.is) + ", " + s.e.Error()
}

// An asking is a call with all that it is given but for the arena. Where one, it is One, of the first variable.
type asking struct {
	one  bool
	id   int
	vars []int
	vals []api.Value
}

func oneOf(id, v int) asking { return asking{one: true, id: id, vars: vars(v)} }

func findOf(id int, vars []int, vals []api.Value) asking { return asking{false, id, vars, vals} }

func (q asking) String() string {
	if q.one {
		return "One of " + strconv.Itoa(q.id) + " and " + tellNumbers(q.vars)
	}
	return "Find of " + strconv.Itoa(q.id) + ", " + short(tellNumbers(q.vars)) + " and " + short(tellVals(q.vals))
}

func (q asking) ask(a *arena.Arena) answer {
	if q.one {
		k, is, e := witness.One(a, q.id, q.vars[0])
		return answer{bigs(k), is, e}
	}
	l, is, e := witness.Find(a, q.id, q.vars, q.vals)
	return answer{l, is, e}
}

// nothing is what is answered beside an error, or where there is none (OK).
func (q asking) nothing(e api.Errno) answer {
	if q.one {
		return answer{bigs(n(0)), false, e}
	}
	return answer{e: e}
}

// refuses fails unless a call is refused by that error, and neither makes nor spends.
func (q asking) refuses(t *testing.T, a *arena.Arena, want api.Errno) {
	t.Helper()
	was := tellArena(a)
	got := q.ask(a)
	if got.String() != q.nothing(want).String() {
		t.Errorf("%s: %s, want %v, in\n%s", q, got, want, short(was))
	}
	if tellArena(a) != was {
		t.Errorf("%s: something was made or spent:\n%s\nwas\n%s", q, short(tellArena(a)), short(was))
	}
}
