package nat_test

import (
	"sync"
	"testing"

	"riddle/api"
	"riddle/nat"
)

// A call is one of the package's, with the lists that it answers.
type call struct {
	name string
	do   func(a, b []uint32) [][]uint32
}

func calls() []call {
	return []call{
		{"Of", func(a, _ []uint32) [][]uint32 { return [][]uint32{nat.Of(uint64(len(a))), nat.Of(1<<40 + 3)} }},
		{"Cmp", func(a, b []uint32) [][]uint32 { return [][]uint32{{uint32(nat.Cmp(a, b) + 2)}} }},
		{"Add", func(a, b []uint32) [][]uint32 { return [][]uint32{nat.Add(a, b)} }},
		{"Sub", func(a, b []uint32) [][]uint32 { d, _ := nat.Sub(a, b); return [][]uint32{d} }},
		{"Mul", func(a, b []uint32) [][]uint32 { return [][]uint32{nat.Mul(a, b)} }},
		{"DivMod", func(a, b []uint32) [][]uint32 { q, r, _ := nat.DivMod(a, b); return [][]uint32{q, r} }},
		{"Gcd", func(a, b []uint32) [][]uint32 { return [][]uint32{nat.Gcd(a, b)} }},
		{"Lcm", func(a, b []uint32) [][]uint32 { return [][]uint32{nat.Lcm(a, b)} }},
		{"Bits", func(a, b []uint32) [][]uint32 { return [][]uint32{{uint32(nat.Bits(a) + 1)}} }},
		{"Text", func(a, _ []uint32) [][]uint32 { return [][]uint32{{uint32(len(nat.Text(a)))}} }},
		{"Parse", func(a, _ []uint32) [][]uint32 { n, _ := nat.Parse(slow(a)); return [][]uint32{n} }},
	}
}

const spare = 5

// roomy is a list with spare room behind it, which is marked.
func roomy(a []uint32) []uint32 {
	l := append(append([]uint32(nil), a...), run(spare, 0xabcd)...)
	return l[: len(a) : len(a)+spare]
}

// kept tells whether a roomy list and its spare room are as they were made.
func kept(l, a []uint32) bool {
	return sameLimbs(l, a) && sameLimbs(l[len(a):len(a)+spare], run(spare, 0xabcd))
}

// scribble writes over a list and all its spare room.
func scribble(l []uint32) {
	l = l[:cap(l)]
	for i := range l {
		l[i] = 0x5555
	}
}

func clones(l [][]uint32) [][]uint32 {
	var c [][]uint32
	for _, a := range l {
		c = append(c, append([]uint32(nil), a...))
	}
	return c
}

func sameAll(a, b [][]uint32) bool {
	if len(a) != len(b) {
		return false
	}
	for i := range a {
		if !sameLimbs(a[i], b[i]) {
			return false
		}
	}
	return true
}

func memoryPairs(f func(a, b []uint32)) {
	some := [][]uint32{nil, {0}, {0, 0, 0}, {1}, {1, 0, 0}, {6}, {top}, {0, 1}, {4, 1, 0}, {1, 1 << 31}, {9, 9, 9}, run(5, top), append(run(4, 0), 1), run(9, 77)}
	for _, a := range some {
		for _, b := range some {
			f(a, b)
		}
	}
}

func TestR3ArgumentsStay(t *testing.T) {
	for _, c := range calls() {
		memoryPairs(func(a, b []uint32) {
			x, y := roomy(a), roomy(b)
			c.do(x, y)
			if !kept(x, a) || !kept(y, b) {
				t.Errorf("%s(%v, %v) changed what it was handed", c.name, a, b)
			}
		})
	}
}

func TestR3AnswersAreBare(t *testing.T) {
	for _, c := range calls() {
		memoryPairs(func(a, b []uint32) {
			for _, l := range c.do(a, b) {
				if len(l) > 0 && l[len(l)-1] == 0 {
					t.Errorf("%s(%v, %v): %v", c.name, a, b, l)
				}
			}
		})
	}
}

func TestR3AnswersAreNew(t *testing.T) {
	for _, c := range calls() {
		memoryPairs(func(a, b []uint32) {
			x, y := roomy(a), roomy(b)
			answer := c.do(x, y)
			want := clones(answer)
			for i := range answer {
				scribble(answer[i])
				for j := i + 1; j < len(answer); j++ {
					if !sameLimbs(answer[j], want[j]) {
						t.Errorf("%s(%v, %v): two answers share memory", c.name, a, b)
					}
				}
			}
			if !kept(x, a) || !kept(y, b) {
				t.Errorf("%s(%v, %v): an answer shares memory with what was handed in", c.name, a, b)
			}
			if !sameAll(c.do(x, y), want) {
				t.Errorf("%s(%v, %v): an answer shares memory with what is kept", c.name, a, b)
			}
		})
	}
}

func TestR3ArgumentsAreNotKept(t *testing.T) {
	for _, c := range calls() {
		memoryPairs(func(a, b []uint32) {
			x, y := roomy(a), roomy(b)
			answer := c.do(x, y)
			want := clones(answer)
			scribble(x)
			scribble(y)
			if !sameAll(answer, want) {
				t.Errorf("%s(%v, %v): what was handed in is answered", c.name, a, b)
			}
			if !sameAll(c.do(a, b), want) {
				t.Errorf("%s(%v, %v): what was handed in is kept", c.name, a, b)
			}
		})
	}
}

// The two lists may be the same memory, or overlap.
func TestR3ListsThatOverlap(t *testing.T) {
	l := limbs(7, 0, top, 9, 1<<31, 0, 3, 0)
	for _, c := range calls() {
		for i := range len(l) {
			for j := range len(l) {
				a, b := l[i/2:i], l[j/2:j]
				want := c.do(append([]uint32(nil), a...), append([]uint32(nil), b...))
				if got := c.do(a, b); !sameAll(got, want) {
					t.Errorf("%s(%v, %v): %v, want %v", c.name, a, b, got, want)
				}
			}
		}
	}
	if !sameLimbs(l, limbs(7, 0, top, 9, 1<<31, 0, 3, 0)) {
		t.Error("the list was changed", l)
	}
}

func TestR4WhateverElseRuns(t *testing.T) {
	d := &dice{state: 13}
	a, b := run(30, top), append(d.list(9), 5)
	var want [][][]uint32
	for _, c := range calls() {
		want = append(want, c.do(a, b))
	}
	var group sync.WaitGroup
	for range 8 {
		group.Add(1)
		go func() {
			defer group.Done()
			for range 50 {
				for i, c := range calls() {
					if !sameAll(c.do(a, b), want[i]) {
						t.Errorf("%s hangs on what runs beside it", c.name)
					}
				}
			}
		}()
	}
	group.Wait()
}

// Beside an error, all else is zero (R2).
func TestR2BesideErrors(t *testing.T) {
	if d, e := nat.Sub(limbs(1, 1), limbs(1, 2)); len(d) > 0 || e != api.ErrNeg {
		t.Error("Sub", d, e)
	}
	if q, r, e := nat.DivMod(run(4, 9), limbs(0)); len(q) > 0 || len(r) > 0 || e != api.ErrZero {
		t.Error("DivMod", q, r, e)
	}
	if n, e := nat.Parse("123456789123456789x"); len(n) > 0 || e != api.ErrForm {
		t.Error("Parse", n, e)
	}
}

// Long lists end, too (R1), noughts at their ends or none.
func TestR1LongLists(t *testing.T) {
	long, noughts := run(1500, top), append(limbs(5), run(100000, 0)...)
	if got := nat.Bits(long); got != 48000 {
		t.Error("Bits", got)
	}
	sum := nat.Add(long, limbs(1))
	if !sameLimbs(sum, append(run(1500, 0), 1)) {
		t.Error("Add")
	}
	if q, r, e := nat.DivMod(nat.Mul(long, sum), sum); !sameLimbs(q, long) || len(r) > 0 || e != api.OK {
		t.Error("DivMod")
	}
	if n, e := nat.Parse(nat.Text(long)); !sameLimbs(n, long) || e != api.OK {
		t.Error("Text, Parse")
	}
	if !sameLimbs(nat.Mul(noughts, noughts), limbs(25)) || nat.Text(noughts) != "5" || !sameLimbs(nat.Lcm(noughts, limbs(2)), limbs(10)) {
		t.Error("noughts")
	}
}
