package term_test

import (
	"slices"
	"strconv"
	"strings"
	"sync"
	"testing"

	"riddle/api"
	"riddle/term"
)

// A handed is what calls are given.
type handed struct {
	a, b api.Term
	k    api.Int
	v    int
	vals []api.Value
}

// An answer is what a call gives back, each thing in the place of its kind.
type answer struct {
	term api.Term
	n    api.Int
	vars []int
	told int
}

type call struct {
	name string
	do   func(h handed) answer
}

func truth(yes bool) int {
	if yes {
		return 1
	}
	return 0
}

func calls() []call {
	return []call{
		{"Valid", func(h handed) answer { return answer{told: truth(term.Valid(h.a))} }},
		{"Norm", func(h handed) answer { return answer{term: term.Norm(h.a)} }},
		{"Const", func(h handed) answer { return answer{term: term.Const(h.k)} }},
		{"Var", func(h handed) answer { return answer{term: term.Var(h.v)} }},
		{"Add", func(h handed) answer { return answer{term: term.Add(h.a, h.b)} }},
		{"Add of one twice", func(h handed) answer { return answer{term: term.Add(h.a, h.a)} }},
		{"Sub", func(h handed) answer { return answer{term: term.Sub(h.a, h.b)} }},
		{"Scale", func(h handed) answer { return answer{term: term.Scale(h.k, h.a)} }},
		{"Coef", func(h handed) answer { return answer{n: term.Coef(h.a, h.v)} }},
		{"Without", func(h handed) answer { return answer{term: term.Without(h.a, h.v)} }},
		{"Put", func(h handed) answer { return answer{term: term.Put(h.a, h.v, h.b)} }},
		{"Put of one into itself", func(h handed) answer { return answer{term: term.Put(h.a, h.v, h.a)} }},
		{"Vars", func(h handed) answer { return answer{vars: term.Vars(h.a)} }},
		{"Order", func(h handed) answer { return answer{told: term.Order(h.a, h.b)} }},
		{"Eval", func(h handed) answer { n, e := term.Eval(h.a, h.vals); return answer{n: n, told: int(e)} }},
		{"Limbs", func(h handed) answer { return answer{told: term.Limbs(h.a)} }},
	}
}

func tellAnswer(a answer) string {
	text := tell(a.term) + ";" + tellInt(a.n) + ";" + strconv.Itoa(a.told)
	for _, v := range a.vars {
		text += ";" + strconv.Itoa(v)
	}
	return text
}

func (d *dice) handed() handed {
	h := handed{a: d.term(6), b: d.term(6), k: d.number(), v: d.variable(), vals: d.allValues()}
	if len(h.a.Parts) > 0 && d.roll(2) == 0 {
		h.v = h.a.Parts[0].Var
	}
	if d.roll(2) == 0 {
		// What stands as it should already is no reason to hand it back.
		h.a, h.b = slowNorm(h.a), slowNorm(h.b)
	}
	return roomyAll(h)
}

func roomyInt(a api.Int) api.Int {
	a.Mag = append(slices.Clone(a.Mag), 0xabcd, 0xabcd, 0xabcd)[:len(a.Mag)]
	return a
}

// roomy is a term with marked spare room behind each of its lists.
func roomy(t api.Term) api.Term {
	parts := slices.Clone(t.Parts)
	for i := range parts {
		parts[i].C = roomyInt(parts[i].C)
	}
	parts = append(parts, p(77, 77), p(77, 77), p(77, 77))[:len(parts)]
	return api.Term{Parts: parts, K: roomyInt(t.K)}
}

func roomyAll(h handed) handed {
	vals := slices.Clone(h.vals)
	for i := range vals {
		vals[i].N = roomyInt(vals[i].N)
	}
	vals = append(vals, value(77, 77), value(77, 77), value(77, 77))[:len(vals)]
	return handed{roomy(h.a), roomy(h.b), roomyInt(h.k), h.v, vals}
}

// The tellers below tell spare room, too.

func tellRoomInt(a api.Int) string {
	a.Mag = a.Mag[:cap(a.Mag)]
	return tellInt(a)
}

func tellRoom(t api.Term) string {
	text := tellRoomInt(t.K)
	for _, q := range t.Parts[:cap(t.Parts)] {
		text += " + " + tellRoomInt(q.C) + " v" + strconv.Itoa(q.Var)
	}
	return text
}

func tellHanded(h handed) string {
	text := []string{tellRoom(h.a), tellRoom(h.b), tellRoomInt(h.k), strconv.Itoa(h.v)}
	for _, value := range h.vals[:cap(h.vals)] {
		text = append(text, strconv.Itoa(value.Var)+" is "+tellRoomInt(value.N))
	}
	return strings.Join(text, "; ")
}

// The calls below call f with the place of each thing in memory, spare room too.

func intCells(a api.Int, f func(place any)) {
	limbs := a.Mag[:cap(a.Mag)]
	for i := range limbs {
		f(&limbs[i])
	}
}

func cells(t api.Term, f func(place any)) {
	intCells(t.K, f)
	parts := t.Parts[:cap(t.Parts)]
	for i := range parts {
		f(&parts[i])
		intCells(parts[i].C, f)
	}
}

func answerCells(a answer, f func(place any)) {
	cells(a.term, f)
	intCells(a.n, f)
	vars := a.vars[:cap(a.vars)]
	for i := range vars {
		f(&vars[i])
	}
}

func handedCells(h handed, f func(place any)) {
	cells(h.a, f)
	cells(h.b, f)
	intCells(h.k, f)
	vals := h.vals[:cap(h.vals)]
	for i := range vals {
		f(&vals[i])
		intCells(vals[i].N, f)
	}
}

// scribble writes over all that is at a place.
func scribble(place any) {
	switch x := place.(type) {
	case *uint32:
		*x = 0x5555
	case *int:
		*x = 5555
	case *api.Part:
		*x = p(5555, 5555)
	case *api.Value:
		*x = value(5555, 5555)
	}
}

func TestR3ArgumentsStay(t *testing.T) {
	d := &dice{state: 71}
	for range 300 {
		h := d.handed()
		was := tellHanded(h)
		for _, c := range calls() {
			c.do(h)
			if tellHanded(h) != was {
				t.Fatalf("%s changed what it was handed: %s", c.name, was)
			}
		}
	}
}

func TestR3AnswersAreNew(t *testing.T) {
	d := &dice{state: 72}
	for range 300 {
		h := d.handed()
		seen := map[any]string{}
		own := func(what string) func(place any) {
			return func(place any) {
				if first, ok := seen[place]; ok {
					t.Errorf("%s shares memory with %s", what, first)
				}
				seen[place] = what
			}
		}
		handedCells(h, own("what is handed in"))
		for _, c := range calls() {
			answerCells(c.do(h), own(c.name))
			answerCells(c.do(h), own(c.name+" again"))
		}
	}
}

// What is done to an answer, or to an argument, afterwards, is seen nowhere else.
func TestR3NothingIsKept(t *testing.T) {
	d := &dice{state: 73}
	for range 100 {
		h := d.handed()
		for _, c := range calls() {
			given := roomyAll(h)
			was := tellHanded(given)
			first := c.do(given)
			want := tellAnswer(first)
			answerCells(first, scribble)
			if tellHanded(given) != was {
				t.Errorf("%s: an answer shares memory with what was handed in", c.name)
			}
			second := c.do(given)
			handedCells(given, scribble)
			if tellAnswer(second) != want || tellAnswer(c.do(h)) != want {
				t.Errorf("%s: something is kept of %s", c.name, was)
			}
		}
	}
}

// All lists that are handed in may be the same memory, or overlap.
func TestR3ListsThatOverlap(t *testing.T) {
	limbs := []uint32{7, 0, top, 9, 0, 3, 0}
	parts := []api.Part{{Var: 2, C: above(limbs[:3]...)}, {Var: 0, C: api.Int{Mag: limbs[1:2]}}, {Var: 2, C: api.Int{Neg: true, Mag: limbs[:3]}}, {Var: 1, C: api.Int{Neg: true, Mag: limbs[:5]}}, {Var: 2, C: api.Int{Mag: limbs[3:7]}}}
	one := api.Int{Mag: limbs[2:4]}
	for i := range len(parts) {
		for j := range len(parts) {
			h := handed{api.Term{Parts: parts[:i], K: one}, api.Term{Parts: parts[j:], K: api.Int{Mag: limbs}}, one, 2, []api.Value{{Var: 2, N: one}, {Var: 1, N: one}, {Var: 0, N: one}}}
			apart := roomyAll(h)
			for _, c := range calls() {
				if got, want := tellAnswer(c.do(h)), tellAnswer(c.do(apart)); got != want {
					t.Fatalf("%s: %s, want %s", c.name, got, want)
				}
			}
		}
	}
	if !slices.Equal(limbs, []uint32{7, 0, top, 9, 0, 3, 0}) {
		t.Error("the limbs were changed", limbs)
	}
}

// Beside an error all else is zero (R2): also where other variables have been added up already.
func TestR2BesideErrors(t *testing.T) {
	u := of(9)
	var vals []api.Value
	for v := range 100 {
		u.Parts = append(u.Parts, p(v, 5))
		if v != 50 {
			vals = append(vals, value(v, 3))
		}
	}
	for range 20 {
		if got, e := term.Eval(u, vals); e != api.ErrArity || got.Neg || len(got.Mag) > 0 {
			t.Error(tellInt(got), e)
		}
	}
}

// What does not stand as it should is taken for what it says, by every call, and answered as it should stand (R1).
func TestR1WhateverStands(t *testing.T) {
	d := &dice{state: 74}
	for range 500 {
		h := handed{d.term(6), d.term(6), d.number(), d.variable(), d.allValues()}
		stood := h
		stood.a, stood.b, stood.k = slowNorm(h.a), slowNorm(h.b), plain(h.k)
		respelt := h
		respelt.a, respelt.b = d.respelt(h.a), d.respelt(h.b)
		for _, c := range calls()[1:] {
			want := c.do(stood)
			for _, h := range []handed{h, respelt} {
				if got := tellAnswer(c.do(h)); got != tellAnswer(want) {
					t.Errorf("%s of %s: %s, want %s", c.name, tellHanded(h), got, tellAnswer(want))
				}
			}
			if !slowValid(want.term) || tellInt(want.n) != tellInt(plain(want.n)) {
				t.Errorf("%s of %s: %s does not stand", c.name, tellHanded(stood), tellAnswer(want))
			}
		}
	}
}

// Long terms and long numbers end, too (R1).
func TestR1LongTerms(t *testing.T) {
	const length = 50000
	var wide, narrow, noughts api.Term
	var vals []api.Value
	var sums [2]int32
	for i := range length {
		wide.Parts = append(wide.Parts, p((i*7919)%length-length/2, 2))
		narrow.Parts = append(narrow.Parts, p(i%2, int32(i%5-1)))
		sums[i%2] += int32(i%5 - 1)
		noughts.Parts = append(noughts.Parts, p(3, 1), p(3, -1), p(i, 0))
		vals = append(vals, value(i-length/2, 1))
	}
	norm := term.Norm(wide)
	if len(norm.Parts) != length || !term.Valid(norm) || term.Order(wide, norm) != 0 {
		t.Error("Norm of many variables", len(norm.Parts))
	}
	if got, e := term.Eval(wide, vals); e != api.OK || tellInt(got) != tellInt(n(2*length)) {
		t.Error("Eval of many variables", tellInt(got), e)
	}
	wantTerm(t, "Norm of few variables", term.Norm(narrow), of(0, p(0, sums[0]), p(1, sums[1])))
	if got := term.Norm(noughts); len(got.Parts) != 0 || len(term.Vars(noughts)) != 0 || term.Limbs(noughts) != 0 {
		t.Error("Norm of nothing", len(got.Parts))
	}
	long := api.Int{Neg: true, Mag: slices.Repeat([]uint32{top}, 2000)}
	u := api.Term{Parts: []api.Part{big(0, long), p(0, -1)}, K: long}
	if term.Limbs(u) != 2001 || term.Limbs(term.Scale(long, u)) != 4000 || term.Order(term.Sub(u, u), api.Term{}) != 0 {
		t.Error("long numbers", term.Limbs(u))
	}
}

// No answer hangs on the order in which a map is gone through, nor on that of the parts (R4).
func TestR4OrdersAreNotSeen(t *testing.T) {
	d := &dice{state: 75}
	h := handed{a: of(3), b: of(-4), k: n(-7), v: 12}
	for v := range 60 {
		h.a.Parts = append(h.a.Parts, big(v-20, d.number()), p(v-20, 1))
		h.b.Parts = append(h.b.Parts, big(2*v-40, d.number()), p(v-20, -1))
		h.vals = append(h.vals, api.Value{Var: v - 20, N: d.number()})
	}
	for _, c := range calls()[1:] {
		want := tellAnswer(c.do(h))
		for range 50 {
			for _, l := range [][]api.Part{h.a.Parts, h.b.Parts} {
				for i := range l {
					j := d.roll(i + 1)
					l[i], l[j] = l[j], l[i]
				}
			}
			if got := tellAnswer(c.do(h)); got != want {
				t.Fatalf("%s: %s, want %s", c.name, got, want)
			}
		}
	}
}

func TestR4WhateverElseRuns(t *testing.T) {
	d := &dice{state: 76}
	h := handed{d.term(12), d.term(12), d.number(), 0, d.allValues()}
	var want []string
	for _, c := range calls() {
		want = append(want, tellAnswer(c.do(h)))
	}
	var group sync.WaitGroup
	for range 8 {
		group.Go(func() {
			for range 200 {
				for i, c := range calls() {
					if got := tellAnswer(c.do(h)); got != want[i] {
						t.Errorf("%s hangs on what runs beside it: %s, want %s", c.name, got, want[i])
						return
					}
				}
			}
		})
	}
	group.Wait()
}
