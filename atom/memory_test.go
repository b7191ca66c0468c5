package atom_test

import (
	"slices"
	"strconv"
	"strings"
	"sync"
	"testing"

	"riddle/api"
	"riddle/atom"
)

// A handed is what calls are given.
type handed struct {
	a, b api.Atom
	d    api.Int
	t    api.Term
	v    int
	vals []api.Value
}

// An answer is what a call gives back, each thing in the place of its kind.
type answer struct {
	atom api.Atom
	text string
	told int
	e    api.Errno
}

type call struct {
	name string
	do   func(h handed) answer
}

func truth(yes bool) int {
	if yes {
		return 1
	}
	return 0
}

func pair(a api.Atom, e api.Errno) answer { return answer{atom: a, e: e} }

func calls() []call {
	return []call{
		{"Valid", func(h handed) answer { return answer{told: truth(atom.Valid(h.a))} }},
		{"Less", func(h handed) answer { return answer{atom: atom.Less(h.t)} }},
		{"Div", func(h handed) answer { return pair(atom.Div(h.d, h.t)) }},
		{"Not", func(h handed) answer { return pair(atom.Not(h.d, h.t)) }},
		{"Norm", func(h handed) answer { return pair(atom.Norm(h.a)) }},
		{"Negate", func(h handed) answer { return answer{atom: atom.Negate(h.a)} }},
		{"Put", func(h handed) answer { return answer{atom: atom.Put(h.a, h.v, h.t)} }},
		{"Put of an atom's own term", func(h handed) answer { return answer{atom: atom.Put(h.a, h.v, h.a.T)} }},
		{"Order", func(h handed) answer { return answer{told: atom.Order(h.a, h.b)} }},
		{"Order of one and itself", func(h handed) answer { return answer{told: atom.Order(h.a, h.a)} }},
		{"Holds", func(h handed) answer { is, e := atom.Holds(h.a, h.vals); return answer{told: truth(is), e: e} }},
		{"Text", func(h handed) answer { return answer{text: atom.Text(h.a)} }},
	}
}

func tellAnswer(a answer) string {
	return tell(a.atom) + ";" + a.text + ";" + strconv.Itoa(a.told) + ";" + strconv.Itoa(int(a.e))
}

func (d *dice) handed() handed {
	h := handed{a: d.atom(), b: d.atom(), d: d.number(), t: d.term(4), v: d.variable(), vals: d.allValues()}
	if len(h.a.T.Parts) > 0 && d.roll(2) == 0 {
		h.v = h.a.T.Parts[0].Var
	}
	if d.roll(3) == 0 {
		// What is formed already is no reason to hand its memory back.
		h.a, _ = slowNorm(d.formed())
		h.d, h.t = h.a.D, h.a.T
	}
	return roomyAll(h)
}

func roomyInt(a api.Int) api.Int {
	a.Mag = append(slices.Clone(a.Mag), 0xabcd, 0xabcd, 0xabcd)[:len(a.Mag)]
	return a
}

// roomyTerm is a term with marked spare room behind each of its lists.
func roomyTerm(t api.Term) api.Term {
	parts := slices.Clone(t.Parts)
	for i := range parts {
		parts[i].C = roomyInt(parts[i].C)
	}
	parts = append(parts, p(77, 77), p(77, 77), p(77, 77))[:len(parts)]
	return api.Term{Parts: parts, K: roomyInt(t.K)}
}

func roomy(a api.Atom) api.Atom {
	return api.Atom{Kind: a.Kind, D: roomyInt(a.D), T: roomyTerm(a.T)}
}

func roomyAll(h handed) handed {
	vals := slices.Clone(h.vals)
	for i := range vals {
		vals[i].N = roomyInt(vals[i].N)
	}
	vals = append(vals, value(77, 77), value(77, 77), value(77, 77))[:len(vals)]
	return handed{roomy(h.a), roomy(h.b), roomyInt(h.d), roomyTerm(h.t), h.v, vals}
}

// The tellers below tell spare room, too.

func tellRoomInt(a api.Int) string {
	a.Mag = a.Mag[:cap(a.Mag)]
	return tellInt(a)
}

func tellRoomTerm(t api.Term) string {
	text := tellRoomInt(t.K)
	for _, q := range t.Parts[:cap(t.Parts)] {
		text += " + " + tellRoomInt(q.C) + " v" + strconv.Itoa(q.Var)
	}
	return text
}

func tellRoom(a api.Atom) string {
	return strconv.Itoa(a.Kind) + ", " + tellRoomInt(a.D) + ", " + tellRoomTerm(a.T)
}

func tellHanded(h handed) string {
	text := []string{tellRoom(h.a), tellRoom(h.b), tellRoomInt(h.d), tellRoomTerm(h.t), strconv.Itoa(h.v)}
	for _, value := range h.vals[:cap(h.vals)] {
		text = append(text, strconv.Itoa(value.Var)+" is "+tellRoomInt(value.N))
	}
	return strings.Join(text, "; ")
}

// The calls below call f with the place of each thing in memory, spare room too.

func intCells(a api.Int, f func(place any)) {
	limbs := a.Mag[:cap(a.Mag)]
	for i := range limbs {
		f(&limbs[i])
	}
}

func termCells(t api.Term, f func(place any)) {
	intCells(t.K, f)
	parts := t.Parts[:cap(t.Parts)]
	for i := range parts {
		f(&parts[i])
		intCells(parts[i].C, f)
	}
}

func cells(a api.Atom, f func(place any)) {
	intCells(a.D, f)
	termCells(a.T, f)
}

func handedCells(h handed, f func(place any)) {
	cells(h.a, f)
	cells(h.b, f)
	intCells(h.d, f)
	termCells(h.t, f)
	vals := h.vals[:cap(h.vals)]
	for i := range vals {
		f(&vals[i])
		intCells(vals[i].N, f)
	}
}

// scribble writes over all that is at a place.
func scribble(place any) {
	switch x := place.(type) {
	case *uint32:
		*x = 0x5555
	case *api.Part:
		*x = p(5555, 5555)
	case *api.Value:
		*x = value(5555, 5555)
	}
}

func TestR3ArgumentsStay(t *testing.T) {
	d := &dice{state: 81}
	for range 500 {
		h := d.handed()
		was := tellHanded(h)
		for _, c := range calls() {
			c.do(h)
			if tellHanded(h) != was {
				t.Fatalf("%s changed what it was handed: %s", c.name, was)
			}
		}
	}
}

func TestR3AnswersAreNew(t *testing.T) {
	d := &dice{state: 82}
	for range 500 {
		h := d.handed()
		seen := map[any]string{}
		own := func(what string) func(place any) {
			return func(place any) {
				if first, ok := seen[place]; ok {
					t.Errorf("%s shares memory with %s", what, first)
				}
				seen[place] = what
			}
		}
		handedCells(h, own("what is handed in"))
		for _, c := range calls() {
			cells(c.do(h).atom, own(c.name))
			cells(c.do(h).atom, own(c.name+" again"))
		}
	}
}

// What is done to an answer, or to an argument, afterwards, is seen nowhere else.
func TestR3NothingIsKept(t *testing.T) {
	d := &dice{state: 83}
	for range 200 {
		h := d.handed()
		for _, c := range calls() {
			given := roomyAll(h)
			was := tellHanded(given)
			first := c.do(given)
			wanted := tellAnswer(first)
			cells(first.atom, scribble)
			if tellHanded(given) != was {
				t.Errorf("%s: an answer shares memory with what was handed in", c.name)
			}
			second := c.do(given)
			handedCells(given, scribble)
			if tellAnswer(second) != wanted || tellAnswer(c.do(h)) != wanted {
				t.Errorf("%s: something is kept of %s", c.name, was)
			}
		}
	}
}

// All lists that are handed in may be the same memory, or overlap.
func TestR3ListsThatOverlap(t *testing.T) {
	limbs := []uint32{6, 0, top, 9, 0, 3, 0}
	parts := []api.Part{{Var: 2, C: api.Int{Mag: limbs[:3]}}, {Var: 0, C: api.Int{Mag: limbs[1:2]}}, {Var: 2, C: api.Int{Neg: true, Mag: limbs[:1]}}, {Var: 1, C: api.Int{Neg: true, Mag: limbs[:5]}}}
	one := api.Int{Mag: limbs[3:5]}
	for i := range len(parts) + 1 {
		for kind := range 6 {
			a := api.Atom{Kind: kind, D: one, T: api.Term{Parts: parts[:i], K: api.Int{Mag: limbs[:1]}}}
			b := api.Atom{Kind: api.Div, D: one, T: api.Term{Parts: parts[i:], K: one}}
			h := handed{a, b, one, b.T, 2, []api.Value{{Var: 2, N: one}, {Var: 1, N: api.Int{Mag: limbs}}, {Var: 0, N: one}}}
			apart := roomyAll(h)
			for _, c := range calls() {
				if got, wanted := tellAnswer(c.do(h)), tellAnswer(c.do(apart)); got != wanted {
					t.Fatalf("%s: %s, want %s", c.name, got, wanted)
				}
			}
		}
	}
	if !slices.Equal(limbs, []uint32{6, 0, top, 9, 0, 3, 0}) {
		t.Error("the limbs were changed", limbs)
	}
}

// Beside an error all else is zero (R2), whatever stands in the fields.
func TestR2BesideErrors(t *testing.T) {
	d := &dice{state: 84}
	refused := 0
	for range 2 * drawn {
		h := d.handed()
		h.vals = d.values()
		for _, c := range calls() {
			got := c.do(h)
			if got.e == api.OK {
				continue
			}
			refused++
			if tellAnswer(got) != tellAnswer(answer{e: got.e}) {
				t.Errorf("%s of %s: %s", c.name, tellHanded(h), tellAnswer(got))
			}
		}
	}
	if refused < drawn/4 {
		t.Errorf("%d were refused", refused)
	}
}

// What does not stand as it should is taken for what it says, by every call, and answered as it should stand (R1).
func TestR1WhateverStands(t *testing.T) {
	d := &dice{state: 85}
	for range drawn {
		h := d.handed()
		h.vals = append(h.vals, value(7, 3), value(9, 3))
		respelt := h
		for _, a := range []*api.Atom{&respelt.a, &respelt.b} {
			a.D, a.T = spoilt(a.D), spoiltTerm(a.T)
		}
		respelt.d, respelt.t = spoilt(h.d), spoiltTerm(h.t)
		for _, c := range calls()[1:] {
			wanted := c.do(h)
			if got := tellAnswer(c.do(respelt)); got != tellAnswer(wanted) {
				t.Errorf("%s of %s: %s, want %s", c.name, tellHanded(respelt), got, tellAnswer(wanted))
			}
			if !slowValid(wanted.atom) {
				t.Errorf("%s of %s: %s does not stand", c.name, tellHanded(h), tellAnswer(wanted))
			}
		}
		if atom.Valid(respelt.a) {
			t.Errorf("Valid of %s", tell(respelt.a))
		}
	}
}

// Long terms and long numbers end, too (R1).
func TestR1LongAtoms(t *testing.T) {
	const length = 20000
	var wide api.Term
	for i := range length {
		wide.Parts = append(wide.Parts, p((i*7919)%length-length/2, 6*(1+i%3)))
	}
	wide.K = n(-13)
	a := atom.Less(wide)
	if len(a.T.Parts) != length || tellInt(a.T.K) != tellInt(n(-2)) || !atom.Valid(a) || !atom.Valid(atom.Negate(a)) {
		t.Error("Less of many variables", len(a.T.Parts), tellInt(a.T.K))
	}
	b, e := atom.Div(n(-18), wide)
	want(t, "Div of many variables, which never holds", b, never())
	wide.K = n(-12)
	c, f := atom.Not(n(-18), wide)
	if e != api.OK || f != api.OK || len(c.T.Parts) != length-length/3 || !atom.Valid(c) || atom.Order(c, c) != 0 {
		t.Error("Not of many variables", e, f, len(c.T.Parts))
	}
	if text := atom.Text(c); !strings.HasPrefix(text, "3!v-10000+v-9999+2v-") || !strings.HasSuffix(text, "+2v9998+1") {
		t.Error("Text of many variables", text[:20], text[len(text)-20:])
	}
	long := api.Int{Neg: true, Mag: slices.Repeat([]uint32{top}, 300)}
	u := api.Term{Parts: []api.Part{big(0, long), p(0, -1), big(1, long)}, K: long}
	g, e := atom.Div(long, u)
	wanted := api.Atom{Kind: api.Div, D: api.Int{Mag: long.Mag}, T: of(0, p(0, 1))}
	if e != api.OK || !atom.Valid(g) {
		t.Error("Div by a long number", e)
	}
	want(t, "Div by a long number", g, wanted)
}

// No answer hangs on the order of the parts (R4).
func TestR4OrdersAreNotSeen(t *testing.T) {
	d := &dice{state: 86}
	for kind := range 5 {
		a := api.Atom{Kind: kind, D: n(60), T: of(3)}
		u := of(-4)
		var vals []api.Value
		for v := range 30 {
			a.T.Parts = append(a.T.Parts, big(v-20, d.number()), p(v-20, 1))
			u.Parts = append(u.Parts, big(2*v-40, d.number()), p(v-20, -1))
			vals = append(vals, api.Value{Var: v - 20, N: d.number()})
		}
		h := handed{a, div(60, u), n(-30), u, 2, vals}
		for _, c := range calls()[1:] {
			wanted := tellAnswer(c.do(h))
			for range 20 {
				for _, l := range [][]api.Part{h.a.T.Parts, h.t.Parts} {
					for i := range l {
						j := d.roll(i + 1)
						l[i], l[j] = l[j], l[i]
					}
				}
				if got := tellAnswer(c.do(h)); got != wanted {
					t.Fatalf("%s: %s, want %s", c.name, got, wanted)
				}
			}
		}
	}
}

func TestR4WhateverElseRuns(t *testing.T) {
	d := &dice{state: 87}
	h := handed{div(60, d.term(9)), d.atom(), n(30), d.term(9), 0, d.allValues()}
	var wanted []string
	for _, c := range calls() {
		wanted = append(wanted, tellAnswer(c.do(h)))
	}
	var group sync.WaitGroup
	for range 8 {
		group.Go(func() {
			for range 200 {
				for i, c := range calls() {
					if got := tellAnswer(c.do(h)); got != wanted[i] {
						t.Errorf("%s hangs on what runs beside it: %s, want %s", c.name, got, wanted[i])
						return
					}
				}
			}
		})
	}
	group.Wait()
}
