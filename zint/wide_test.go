package zint_test

import (
	"testing"

	"riddle/api"
)

// The numbers below are reckoned a second time as words of many limbs that wrap round, where below 0 is nothing but
// the highest bit: there is no sign that could be wrong, and no check of a call of the package leans on another one.

const (
	top       = 1<<32 - 1
	wideLimbs = 48
)

// A wide has room for products of the numbers that are looked at here.
type wide [wideLimbs]uint32

func wideOf(a api.Int) wide {
	var w wide
	copy(w[:], a.Mag)
	if a.Neg {
		return w.opposite()
	}
	return w
}

func wideSmall(n int64) wide {
	w := wide{uint32(n), uint32(n >> 32)}
	if n < 0 {
		for i := 2; i < wideLimbs; i++ {
			w[i] = top
		}
	}
	return w
}

// wideText is the number of decimal digits, a minus ahead of them or not.
func wideText(s string) wide {
	neg := s[0] == '-'
	if neg {
		s = s[1:]
	}
	var w wide
	for i := range len(s) {
		w = w.times(wideSmall(10)).plus(wideSmall(int64(s[i] - '0')))
	}
	if neg {
		return w.opposite()
	}
	return w
}

func (w wide) plus(v wide) wide {
	carry := uint64(0)
	for i := range w {
		carry += uint64(w[i]) + uint64(v[i])
		w[i] = uint32(carry)
		carry >>= 32
	}
	return w
}

func (w wide) opposite() wide {
	for i := range w {
		w[i] = ^w[i]
	}
	return w.plus(wide{1})
}

func (w wide) minus(v wide) wide { return w.plus(v.opposite()) }

func (w wide) times(v wide) wide {
	var product wide
	for i := range w {
		if w[i] == 0 {
			continue
		}
		carry := uint64(0)
		for j := range wideLimbs - i {
			carry += uint64(w[i])*uint64(v[j]) + uint64(product[i+j])
			product[i+j] = uint32(carry)
			carry >>= 32
		}
	}
	return product
}

func (w wide) sign() int {
	switch {
	case w == wide{}:
		return 0
	case w[wideLimbs-1]>>31 == 1:
		return -1
	}
	return 1
}

func (w wide) magnitude() wide {
	if w.sign() < 0 {
		return w.opposite()
	}
	return w
}

// stands tells whether a number stands as it should.
func stands(a api.Int) bool {
	if len(a.Mag) == 0 {
		return !a.Neg
	}
	return a.Mag[len(a.Mag)-1] != 0
}

// wantNumber fails unless a number stands as it should and is the one that is wanted.
func wantNumber(t *testing.T, what string, got api.Int, want wide) {
	t.Helper()
	if !stands(got) {
		t.Errorf("%s: %v doesn't stand as it should", what, got)
	}
	if w := wideOf(got); w != want {
		t.Errorf("%s: %v, not what it should be", what, got)
	}
}

func same(a, b api.Int) bool {
	if a.Neg != b.Neg || len(a.Mag) != len(b.Mag) {
		return false
	}
	for i := range a.Mag {
		if a.Mag[i] != b.Mag[i] {
			return false
		}
	}
	return true
}

func over(l ...uint32) api.Int  { return api.Int{Mag: l} }
func under(l ...uint32) api.Int { return api.Int{Neg: true, Mag: l} }

// small is a number of one limb or none.
func small(n int) api.Int {
	switch {
	case n < 0:
		return under(uint32(-n))
	case n > 0:
		return over(uint32(n))
	}
	return api.Int{}
}

// run is a list of n limbs, all the same.
func run(n int, limb uint32) []uint32 {
	l := make([]uint32, n)
	for i := range l {
		l[i] = limb
	}
	return l
}

// noughts are all the forms of 0.
func noughts() []api.Int {
	return []api.Int{{}, {Neg: true}, over(), {Mag: []uint32{}}, {Neg: true, Mag: []uint32{}}, over(0), under(0), over(0, 0, 0), under(0, 0, 0)}
}

// edges are the numbers that the document names, and their neighbours, on both sides of 0.
func edges() []api.Int {
	all := noughts()
	for _, mag := range [][]uint32{
		{1}, {1, 0}, {2}, {3, 0, 0}, {5}, {6}, {7}, {9}, {10}, {12, 0}, {18},
		{999999999}, {1000000000}, {1<<31 - 1}, {1 << 31}, {top}, {top, 0, 0}, {0, 1}, {0, 1, 0}, {7, 1}, {top, 1},
		{0, 1<<31 - 1}, {top, 1<<31 - 1}, {top - 1, 1<<31 - 1, 0}, {0, 1 << 31}, {0, 1 << 31, 0}, {1, 1 << 31}, {top, top}, {top, top, 0, 0},
		{0, 0, 1}, {1, 0, 1}, {0, 1 << 31, 1}, {5, 0, 1 << 31}, {2808348672, 232830643}, run(8, top), append(run(8, 0), 1), run(20, 1<<31),
	} {
		all = append(all, over(mag...), under(mag...))
	}
	return all
}

// dice are numbers that look drawn, and are the same ones each time.
type dice struct{ state uint64 }

func (d *dice) below(n int) int {
	d.state = d.state*6364136223846793005 + 1442695040888963407
	return int(d.state>>33) % n
}

// number has up to most limbs; many of them are at an end of what a limb can be, so that some don't stand as they
// should.
func (d *dice) number(most int) api.Int {
	a := api.Int{Neg: d.below(2) == 1, Mag: make([]uint32, d.below(most+1))}
	for i := range a.Mag {
		switch d.below(6) {
		case 0:
			a.Mag[i] = 0
		case 1:
			a.Mag[i] = top
		default:
			a.Mag[i] = uint32(d.below(1<<16))<<16 | uint32(d.below(1<<16))
		}
	}
	return a
}

// pairs calls f with all pairs of edges, and with others.
func pairs(f func(a, b api.Int)) {
	all := edges()
	for _, a := range all {
		for _, b := range all {
			f(a, b)
		}
	}
	d := &dice{state: 3}
	for range 3000 {
		f(d.number(8), d.number(6))
	}
}

// triples calls f with all triples of some edges, and with others.
func triples(f func(a, b, c api.Int)) {
	some := []api.Int{{}, under(0, 0), over(1), under(1, 0), over(6), under(4), under(top), over(0, 1), under(1, 1<<31), over(top, top), under(run(5, top)...)}
	for _, a := range some {
		for _, b := range some {
			for _, c := range some {
				f(a, b, c)
			}
		}
	}
	d := &dice{state: 9}
	for range 2000 {
		f(d.number(5), d.number(5), d.number(5))
	}
}
