package zint_test

import (
	"sync"
	"testing"

	"riddle/api"
	"riddle/zint"
)

// A call is one of the package's, with the numbers that it answers.
type call struct {
	name string
	do   func(a, b api.Int) []api.Int
}

func calls() []call {
	return []call{
		{"Of", func(a, _ api.Int) []api.Int { return []api.Int{zint.Of(int64(len(a.Mag))), zint.Of(-1<<40 - 3)} }},
		{"Norm", func(a, _ api.Int) []api.Int { return []api.Int{zint.Norm(a)} }},
		{"Valid", func(a, _ api.Int) []api.Int { return answered(zint.Valid(a)) }},
		{"Int64", func(a, _ api.Int) []api.Int { n, ok := zint.Int64(a); return append(answered(ok), zint.Of(n)) }},
		{"Sign", func(a, _ api.Int) []api.Int { return []api.Int{small(zint.Sign(a))} }},
		{"Cmp", func(a, b api.Int) []api.Int { return []api.Int{small(zint.Cmp(a, b))} }},
		{"Neg", func(a, _ api.Int) []api.Int { return []api.Int{zint.Neg(a)} }},
		{"Abs", func(a, _ api.Int) []api.Int { return []api.Int{zint.Abs(a)} }},
		{"Add", func(a, b api.Int) []api.Int { return []api.Int{zint.Add(a, b)} }},
		{"Sub", func(a, b api.Int) []api.Int { return []api.Int{zint.Sub(a, b)} }},
		{"Mul", func(a, b api.Int) []api.Int { return []api.Int{zint.Mul(a, b)} }},
		{"DivMod", func(a, b api.Int) []api.Int { q, r, _ := zint.DivMod(a, b); return []api.Int{q, r} }},
		{"Gcd", func(a, b api.Int) []api.Int { return []api.Int{zint.Gcd(a, b)} }},
		{"Gcd of one", func(a, _ api.Int) []api.Int { return []api.Int{zint.Gcd(a)} }},
		{"Gcd of none", func(_, _ api.Int) []api.Int { return []api.Int{zint.Gcd()} }},
		{"Lcm", func(a, b api.Int) []api.Int { return []api.Int{zint.Lcm(a, b)} }},
		{"Lcm of one", func(a, _ api.Int) []api.Int { return []api.Int{zint.Lcm(a)} }},
		{"Lcm of none", func(_, _ api.Int) []api.Int { return []api.Int{zint.Lcm()} }},
		{"Limbs", func(a, _ api.Int) []api.Int { return []api.Int{small(zint.Limbs(a))} }},
		{"Text", func(a, _ api.Int) []api.Int { return []api.Int{small(len(zint.Text(a)))} }},
		{"Parse", func(a, _ api.Int) []api.Int { n, _ := zint.Parse(zint.Text(a)); return []api.Int{n} }},
	}
}

func answered(truth bool) []api.Int {
	if truth {
		return []api.Int{over(1)}
	}
	return []api.Int{{}}
}

const (
	spare = 5
	mark  = 0xabcd
)

// roomy is a number with spare room behind its limbs, which is marked.
func roomy(a api.Int) api.Int {
	l := append(append([]uint32(nil), a.Mag...), run(spare, mark)...)
	return api.Int{Neg: a.Neg, Mag: l[: len(a.Mag) : len(a.Mag)+spare]}
}

// kept tells whether a roomy number and its spare room are as they were made.
func kept(r, a api.Int) bool {
	n := len(a.Mag)
	return same(r, a) && same(over(r.Mag[n:n+spare]...), over(run(spare, mark)...))
}

// scribble writes over a number's limbs and all their spare room.
func scribble(a api.Int) {
	l := a.Mag[:cap(a.Mag)]
	for i := range l {
		l[i] = 0x5555
	}
}

func clones(l []api.Int) []api.Int {
	var c []api.Int
	for _, a := range l {
		c = append(c, api.Int{Neg: a.Neg, Mag: append([]uint32(nil), a.Mag...)})
	}
	return c
}

func sameAll(a, b []api.Int) bool {
	if len(a) != len(b) {
		return false
	}
	for i := range a {
		if !same(a[i], b[i]) {
			return false
		}
	}
	return true
}

func memoryPairs(f func(a, b api.Int)) {
	var some []api.Int
	for _, mag := range [][]uint32{nil, {0}, {0, 0, 0}, {1}, {1, 0, 0}, {6}, {top}, {0, 1}, {4, 1, 0}, {1, 1 << 31}, {9, 9, 9}, run(5, top), append(run(4, 0), 1), run(9, 77)} {
		some = append(some, over(mag...), under(mag...))
	}
	for _, a := range some {
		for _, b := range some {
			f(a, b)
		}
	}
}

func TestR3ArgumentsStay(t *testing.T) {
	for _, c := range calls() {
		memoryPairs(func(a, b api.Int) {
			x, y := roomy(a), roomy(b)
			c.do(x, y)
			if !kept(x, a) || !kept(y, b) {
				t.Errorf("%s(%v, %v) changed what it was handed", c.name, a, b)
			}
		})
	}
}

// The list that Gcd and Lcm are handed is memory of its own, beside its numbers' limbs.
func TestR3ListsStay(t *testing.T) {
	for _, fold := range []func(l ...api.Int) api.Int{zint.Gcd, zint.Lcm} {
		room := []api.Int{roomy(under(12, 0)), roomy(over(18)), roomy(under(0)), roomy(over(5, 5)), roomy(under(7))}
		want := clones(room)
		for n := range len(room) {
			answer := fold(room[:n]...)
			scribble(answer)
			for i := range room {
				if !kept(room[i], want[i]) {
					t.Errorf("of %d numbers, the one at %d: %v, was %v", n, i, room[i], want[i])
				}
			}
		}
	}
}

func TestR3AnswersStand(t *testing.T) {
	for _, c := range calls() {
		memoryPairs(func(a, b api.Int) {
			for _, n := range c.do(a, b) {
				if !stands(n) {
					t.Errorf("%s(%v, %v): %v", c.name, a, b, n)
				}
			}
		})
	}
}

func TestR3AnswersAreNew(t *testing.T) {
	for _, c := range calls() {
		memoryPairs(func(a, b api.Int) {
			x, y := roomy(a), roomy(b)
			answer := c.do(x, y)
			want := clones(answer)
			for i := range answer {
				scribble(answer[i])
				for j := i + 1; j < len(answer); j++ {
					if !same(answer[j], want[j]) {
						t.Errorf("%s(%v, %v): two answers share memory", c.name, a, b)
					}
				}
			}
			if !kept(x, a) || !kept(y, b) {
				t.Errorf("%s(%v, %v): an answer shares memory with what was handed in", c.name, a, b)
			}
			if !sameAll(c.do(x, y), want) {
				t.Errorf("%s(%v, %v): an answer shares memory with what is kept", c.name, a, b)
			}
		})
	}
}

// Of two answers the spare room is looked at, too: what is written into one's does not show in the other's.
func TestR3SpareRoomIsNotShared(t *testing.T) {
	memoryPairs(func(a, b api.Int) {
		q, r, _ := zint.DivMod(a, b)
		scribble(q)
		left := append([]uint32(nil), r.Mag[:cap(r.Mag)]...)
		for i := range cap(q.Mag) {
			q.Mag[:cap(q.Mag)][i]++
		}
		if !same(over(r.Mag[:cap(r.Mag)]...), over(left...)) {
			t.Errorf("DivMod(%v, %v): quotient and rest share spare room", a, b)
		}
	})
}

func TestR3ArgumentsAreNotKept(t *testing.T) {
	for _, c := range calls() {
		memoryPairs(func(a, b api.Int) {
			x, y := roomy(a), roomy(b)
			answer := c.do(x, y)
			want := clones(answer)
			scribble(x)
			scribble(y)
			if !sameAll(answer, want) {
				t.Errorf("%s(%v, %v): what was handed in is answered", c.name, a, b)
			}
			if !sameAll(c.do(a, b), want) {
				t.Errorf("%s(%v, %v): what was handed in is kept", c.name, a, b)
			}
		})
	}
}

// The two numbers' limbs may be the same memory, or overlap.
func TestR3LimbsThatOverlap(t *testing.T) {
	l := []uint32{7, 0, top, 9, 1 << 31, 0, 3, 0}
	was := over(append([]uint32(nil), l...)...)
	for _, c := range calls() {
		for i := range len(l) {
			for j := range len(l) {
				a, b := api.Int{Neg: i%2 == 1, Mag: l[i/2 : i]}, api.Int{Neg: j%3 == 1, Mag: l[j/2 : j]}
				apart := clones([]api.Int{a, b})
				if got, want := c.do(a, b), c.do(apart[0], apart[1]); !sameAll(got, want) {
					t.Errorf("%s(%v, %v): %v, want %v", c.name, a, b, got, want)
				}
			}
		}
	}
	if !same(over(l...), was) {
		t.Error("the limbs were changed", l)
	}
}

func TestR4WhateverElseRuns(t *testing.T) {
	a, b := under(run(30, top)...), over(1, 2, 3, 4, 5)
	var want [][]api.Int
	for _, c := range calls() {
		want = append(want, c.do(a, b))
	}
	var group sync.WaitGroup
	for range 8 {
		group.Add(1)
		go func() {
			defer group.Done()
			for range 50 {
				for i, c := range calls() {
					if !sameAll(c.do(a, b), want[i]) {
						t.Errorf("%s hangs on what runs beside it", c.name)
					}
				}
			}
		}()
	}
	group.Wait()
}

// Beside an error, or a false that says that there is nothing, all else is zero (R2).
func TestR2BesideErrors(t *testing.T) {
	if q, r, e := zint.DivMod(under(run(4, 9)...), under(0)); !same(q, api.Int{}) || !same(r, api.Int{}) || e != api.ErrZero {
		t.Error("DivMod", q, r, e)
	}
	if n, e := zint.Parse("-123456789123456789x"); !same(n, api.Int{}) || e != api.ErrForm {
		t.Error("Parse", n, e)
	}
	if n, ok := zint.Int64(under(run(4, 9)...)); n != 0 || ok {
		t.Error("Int64", n, ok)
	}
}

// Long numbers end, too (R1), noughts at their ends or none.
func TestR1LongNumbers(t *testing.T) {
	long, five := under(run(1500, top)...), under(append([]uint32{5}, run(100000, 0)...)...)
	if got := zint.Limbs(long); got != 1500 {
		t.Error("Limbs", got)
	}
	if got := zint.Sub(long, over(1)); !same(got, under(append(run(1500, 0), 1)...)) {
		t.Error("Sub")
	}
	q, r, e := zint.DivMod(zint.Sub(zint.Mul(long, long), over(1)), long)
	if !same(q, zint.Add(long, over(0))) || !same(r, under(1)) || e != api.OK {
		t.Error("DivMod")
	}
	if n, e := zint.Parse(zint.Text(long)); !same(n, long) || e != api.OK {
		t.Error("Text, Parse")
	}
	if zint.Text(five) != "-5" || zint.Sign(five) != -1 || zint.Limbs(five) != 1 || !same(zint.Norm(five), under(5)) || !same(zint.Lcm(five, over(2)), over(10)) {
		t.Error("noughts")
	}
	if n, ok := zint.Int64(five); n != -5 || !ok {
		t.Error("Int64", n, ok)
	}
}
