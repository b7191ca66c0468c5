package periods_test

import (
	"math"
	"slices"
	"strconv"
	"strings"
	"testing"

	"riddle/api"
	"riddle/arena"
	"riddle/meter"
	"riddle/periods"
	"riddle/zint"
)

const (
	top   = 1<<32 - 1
	least = math.MinInt
	most  = math.MaxInt
	// drawn is how many sets, or arenas, a test draws.
	drawn = 2000
)

// Numbers, sets and formulas are made here by short calls.

// n is a small number, made without the layers below.
func n(k int) api.Int {
	switch {
	case k == 0:
		return api.Int{}
	case k < 0:
		return api.Int{Neg: true, Mag: []uint32{uint32(-k)}}
	}
	return api.Int{Mag: []uint32{uint32(k)}}
}

// raw is a number limb by limb, which need not stand as it should.
func raw(neg bool, limbs ...uint32) api.Int { return api.Int{Neg: neg, Mag: limbs} }

// wide is a number of just so many limbs, as small as such a one can be.
func wide(limbs int) api.Int { return api.Int{Mag: append(make([]uint32, limbs-1), 1)} }

// widest is the greatest number of just so many limbs.
func widest(limbs int) api.Int { return api.Int{Mag: slices.Repeat([]uint32{top}, limbs)} }

func opposite(a api.Int) api.Int { return api.Int{Neg: len(a.Mag) > 0 && !a.Neg, Mag: a.Mag} }

// plus is a number and a little more.
func plus(a api.Int, k int) api.Int { return zint.Add(a, n(k)) }

func numbers(l ...int) []api.Int {
	var all []api.Int
	for _, k := range l {
		all = append(all, n(k))
	}
	return all
}

func bigs(l ...api.Int) []api.Int { return l }

// modulo is what is left of a number, 0 to d - 1.
func modulo(k, d int) int { return (k%d + d) % d }

// made fails where a test has made a set that can't be.
func made(s *periods.Set, e api.Errno) *periods.Set {
	if s == nil || e != api.OK {
		panic(e)
	}
	return s
}

func none() *periods.Set { return periods.None() }

func every() *periods.Set { return periods.None().Rest() }

func above(k int) *periods.Set { return periods.Above(n(k)) }

// upTo are the numbers that are not above k.
func upTo(k int) *periods.Set { return above(k).Rest() }

func class(d, r int) *periods.Set { return made(periods.Class(n(d), n(r))) }

func meet(first *periods.Set, others ...*periods.Set) *periods.Set {
	for _, o := range others {
		first = made(first.Meet(o))
	}
	return first
}

func join(first *periods.Set, others ...*periods.Set) *periods.Set {
	for _, o := range others {
		first = made(first.Join(o))
	}
	return first
}

// between are the numbers from one on up to another one, both with them.
func between(lo, hi int) *periods.Set { return meet(above(lo-1), upTo(hi)) }

// one is the set of one number.
func one(k int) *periods.Set { return between(k, k) }

func p(v, c int) api.Part { return api.Part{Var: v, C: n(c)} }

func big(v int, c api.Int) api.Part { return api.Part{Var: v, C: c} }

// A form is a formula that is yet to be laid in an arena, node by node, none of them made simpler.
type form func(a *arena.Arena) int

func atomOf(kind int, d, k api.Int, parts []api.Part) form {
	return func(a *arena.Arena) int {
		return laid(a.Atom(api.Atom{Kind: kind, D: d, T: api.Term{Parts: parts, K: k}}))
	}
}

// laid fails where a test has made a formula that can't be.
func laid(id int, e api.Errno) int {
	if e != api.OK {
		panic(e)
	}
	return id
}

func never() form { return func(*arena.Arena) int { return 0 } }

func always() form { return func(*arena.Arena) int { return 1 } }

func less(k int, parts ...api.Part) form { return atomOf(api.Less, n(0), n(k), parts) }

func bigLess(k api.Int, parts ...api.Part) form { return atomOf(api.Less, n(0), k, parts) }

// x is 0 < c v0 + k; div says that d divides c v0 + k, not that it doesn't.

func x(c, k int) form { return less(k, p(0, c)) }

func div(d, c, k int) form { return atomOf(api.Div, n(d), n(k), []api.Part{p(0, c)}) }

func not(d, c, k int) form { return atomOf(api.Not, n(d), n(k), []api.Part{p(0, c)}) }

func bigDiv(d, c, k api.Int) form { return atomOf(api.Div, d, k, []api.Part{big(0, c)}) }

func bigNot(d, c, k api.Int) form { return atomOf(api.Not, d, k, []api.Part{big(0, c)}) }

func joined(kind int, kids []form) form {
	return func(a *arena.Arena) int { return laid(a.Join(kind, layAll(a, kids)...)) }
}

func and(kids ...form) form { return joined(api.And, kids) }

func or(kids ...form) form { return joined(api.Or, kids) }

func some(v int, kid form) form {
	return func(a *arena.Arena) int { return laid(a.Bind(api.Some, v, kid(a))) }
}

func all(v int, kid form) form {
	return func(a *arena.Arena) int { return laid(a.Bind(api.All, v, kid(a))) }
}

func layAll(a *arena.Arena, forms []form) []int {
	var ids []int
	for _, f := range forms {
		ids = append(ids, f(a))
	}
	return ids
}

func of(forms ...form) []form { return forms }

// behind is a formula that is laid behind others, so that the numbers of nodes are not in the order of its text.
func behind(first []form, f form) form {
	return func(a *arena.Arena) int {
		layAll(a, first)
		return f(a)
	}
}

// The tellers tell all fields as they stand, limb by limb, so that what differs in anything is told otherwise.

func tellInt(a api.Int) string {
	var b strings.Builder
	if a.Neg {
		b.WriteString("-")
	}
	for _, limb := range a.Mag {
		b.WriteString("'" + strconv.FormatUint(uint64(limb), 10))
	}
	return b.String()
}

func tellInts(l []api.Int) string {
	var texts []string
	for _, a := range l {
		texts = append(texts, tellInt(a))
	}
	return "(" + strings.Join(texts, ", ") + ")"
}

func tellNode(x api.Node) string {
	var b strings.Builder
	b.WriteString("[kind " + strconv.Itoa(x.Kind) + ", " + tellInt(x.D) + ", ")
	for _, q := range x.T.Parts {
		b.WriteString(tellInt(q.C) + " v" + strconv.Itoa(q.Var) + " + ")
	}
	b.WriteString(tellInt(x.T.K) + "] v" + strconv.Itoa(x.Var))
	for _, kid := range x.Kids {
		b.WriteString(" " + strconv.Itoa(kid))
	}
	return b.String()
}

// tellArena tells all nodes and the meter; of a nil arena nothing.
func tellArena(a *arena.Arena) string {
	if a == nil {
		return ""
	}
	var b strings.Builder
	for id := range a.Len() {
		b.WriteString(strconv.Itoa(id) + " " + tellNode(whole(a, id)) + "\n")
	}
	return b.String() + strconv.Itoa(a.Meter().Spent()) + " " + a.Meter().Over().Error()
}

// tellSet tells a set as far as calls can: its period, its cuts, and which of the numbers around these it has.
func tellSet(s *periods.Set) string {
	if s == nil {
		return "nil"
	}
	var b strings.Builder
	b.WriteString("period " + strconv.Itoa(s.Period()) + ", cuts " + tellInts(s.Cuts()) + ", ")
	for _, k := range probes(s.Period(), s.Cuts()) {
		if s.Has(k) {
			b.WriteByte('+')
		} else {
			b.WriteByte('.')
		}
	}
	return b.String()
}

// short cuts what would fill pages.
func short(text string) string {
	if len(text) > 3000 {
		return text[:3000] + ".."
	}
	return text
}

// probes are numbers at which a set is looked at: next to its cuts, a period away from them, and far from all. Of a short
// period each remainder is among them everywhere.
func probes(period int, cuts []api.Int) []api.Int {
	var near []int
	if period <= 24 {
		for k := -period - 1; k <= period+1; k++ {
			near = append(near, k)
		}
	} else {
		near = []int{-2*period - 1, -2 * period, -period - 1, -period, 1 - period, -period / 2, -64, -63, -3, -2, -1, 0, 1, 2, 3, 31, 32, 63, 64, 65, period / 3, period/2 + 1, period - 1, period, period + 1, 2 * period}
	}
	// The far ones leave 1 by 2^32 - 1, and are not 0 by most divisors.
	places := slices.Concat(cuts, bigs(n(0), plus(wide(5), 12345), opposite(plus(wide(4), 777))))
	if len(cuts) > 0 {
		places = append(places, plus(cuts[0], -7*period), plus(cuts[len(cuts)-1], 7*period))
	}
	var l []api.Int
	for _, place := range places {
		for _, k := range near {
			l = append(l, plus(place, k))
		}
	}
	return l
}

// whole is all of a formula's node; the tests ask it of numbers that are there.
func whole(a *arena.Arena, id int) api.Node {
	node, _ := a.Node(id)
	return node
}

func meterOf(t *testing.T, nodes, limbs int) *meter.Meter {
	t.Helper()
	m, e := meter.New(nodes, limbs)
	if m == nil || e != api.OK {
		t.Fatalf("meter.New(%d, %d): %v", nodes, limbs, e)
	}
	return m
}

// stands fails unless a set has that period and those cuts, and the cuts stand as they should, rising.
func stands(t *testing.T, what string, s *periods.Set, period int, cuts []api.Int) {
	t.Helper()
	if s == nil || s.Period() != period {
		t.Errorf("%s: %s, want period %d", what, short(tellSet(s)), period)
		return
	}
	got := s.Cuts()
	if tellInts(got) != tellInts(cuts) {
		t.Errorf("%s: cuts %s, want %s", what, short(tellInts(got)), short(tellInts(cuts)))
	}
	for i, cut := range got {
		if !zint.Valid(cut) || i > 0 && zint.Cmp(got[i-1], cut) >= 0 {
			t.Errorf("%s: cuts %s", what, short(tellInts(got)))
		}
	}
}

// has fails unless the one numbers are in a set, and the others aren't; its Rest has the others alone.
func has(t *testing.T, what string, s *periods.Set, yes, no []api.Int) {
	t.Helper()
	rest := s.Rest()
	for i, k := range slices.Concat(yes, no) {
		if want := i < len(yes); s.Has(k) != want || rest.Has(k) == want {
			t.Errorf("%s: of %s Has says %v, of the Rest %v", what, tellInt(k), s.Has(k), rest.Has(k))
		}
	}
}

// hasJust fails unless, from -200 to 200, just those numbers are in a set for which that is told.
func hasJust(t *testing.T, what string, s *periods.Set, is func(k int) bool) {
	t.Helper()
	for k := -200; k <= 200; k++ {
		if s.Has(n(k)) != is(k) {
			t.Errorf("%s: of %d Has says %v, in %s", what, k, s.Has(n(k)), short(tellSet(s)))
			return
		}
	}
}

// alike fails unless two sets are told alike, and are the same.
func alike(t *testing.T, what string, s, o *periods.Set) {
	t.Helper()
	if tellSet(s) != tellSet(o) || !s.Same(o) || !o.Same(s) {
		t.Errorf("%s: %s; %s; Same %v, %v", what, short(tellSet(s)), short(tellSet(o)), s.Same(o), o.Same(s))
	}
}

// setOf is what Of answers, for the second time, too; nothing is made or counted.
func setOf(t *testing.T, a *arena.Arena, id, v int) (*periods.Set, api.Errno) {
	t.Helper()
	was := tellArena(a)
	s, e := periods.Of(a, id, v)
	again, e2 := periods.Of(a, id, v)
	if e != e2 || tellSet(s) != tellSet(again) {
		t.Errorf("Of(%d, v%d): %s, %v; then %s, %v", id, v, short(tellSet(s)), e, short(tellSet(again)), e2)
	}
	if (s == nil) != (e != api.OK) {
		t.Errorf("Of(%d, v%d): %s beside %v", id, v, short(tellSet(s)), e)
	}
	if tellArena(a) != was {
		t.Errorf("of %d something was made:\n%s\nwas\n%s", id, short(tellArena(a)), short(was))
	}
	return s, e
}

// refuses fails unless Of answers that error, and no set.
func refuses(t *testing.T, a *arena.Arena, id, v int, want api.Errno) {
	t.Helper()
	if s, e := setOf(t, a, id, v); s != nil || e != want {
		t.Errorf("Of(%d, v%d): %s, %v, want %v, in\n%s", id, v, short(tellSet(s)), e, want, short(tellArena(a)))
	}
}

// The examples of the chapter.
func TestExamples(t *testing.T) {
	stands(t, "Above(3)", above(3), 1, numbers(4))
	has(t, "Above(3)", above(3), numbers(4), numbers(3))
	stands(t, "Class(4, -1)", class(4, -1), 4, nil)
	has(t, "Class(4, -1)", class(4, -1), numbers(3), numbers(-4, -6, 0))
	// The table says false of -5, which leaves 3 by 4, as -1 does; P18.1 says true.
	has(t, "Class(4, -1)", class(4, -1), numbers(-5), nil)
	refusesClass(t, n(0), n(1), api.ErrZero)
	refusesClass(t, n(4097), n(0), api.ErrPeriod)
	has(t, "Class(-2, 1)", class(-2, 1), numbers(7), nil)
	twelve := meet(class(4, 1), class(6, 3))
	stands(t, "Class(4, 1) Meet Class(6, 3)", twelve, 12, nil)
	has(t, "Class(4, 1) Meet Class(6, 3)", twelve, numbers(9, 21), numbers(15))
	whole := join(above(3), above(3).Rest())
	stands(t, "Above(3) Join its Rest", whole, 1, nil)
	if !whole.Same(none().Rest()) {
		t.Error("Above(3) Join its Rest is not the Rest of None")
	}
	a := arena.New(nil)
	s, e := setOf(t, a, and(x(1, -3), div(2, 1, 0))(a), 0)
	if e != api.OK {
		t.Fatal(e)
	}
	stands(t, "0 < x - 3 and 2 divides x", s, 2, numbers(4))
	has(t, "0 < x - 3 and 2 divides x", s, numbers(4), numbers(2))
	refusesBoth(t, class(64, 1), class(81, 1), api.ErrPeriod)
	refuses(t, a, less(0, p(0, 1), p(1, 1))(a), 0, api.ErrFree)
	refuses(t, a, some(0, x(1, 0))(a), 0, api.ErrQuant)
	refuses(t, a, div(5000, 1, 0)(a), 0, api.ErrPeriod)
	if api.ErrArg != 1 || api.ErrZero != 11 || api.ErrNode != 80 || api.ErrQuant != 130 || api.ErrFree != 171 || api.ErrPeriod != 180 || api.MaxPeriod != 4096 {
		t.Error("the errors, or the limit, have other numbers")
	}
}
