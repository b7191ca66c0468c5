package periods_test

import (
	"slices"
	"strconv"
	"testing"

	"riddle/api"
	"riddle/periods"
	"riddle/zint"
)

// greats are numbers of one limb and of many, below 0 and above, at the ends of limbs and next to these.
func greats() []api.Int {
	l := numbers(0, 1, 2, 3, 17, 4095, 4096, 4097, 1<<31, top-1, top)
	for limbs := 2; limbs <= 9; limbs++ {
		l = append(l, wide(limbs), plus(wide(limbs), 1), plus(widest(limbs), -1), widest(limbs))
	}
	l = append(l, wide(40), widest(40))
	for _, k := range slices.Clone(l[1:]) {
		l = append(l, opposite(k))
	}
	return l
}

// raws are ways to write a number that don't stand as they should: limbs too many, and, of 0, a 0 below 0.
func raws(k api.Int) []api.Int {
	l := bigs(api.Int{Neg: k.Neg, Mag: slices.Concat(k.Mag, []uint32{0})}, api.Int{Neg: k.Neg, Mag: slices.Concat(k.Mag, make([]uint32, 9))})
	if len(k.Mag) == 0 {
		l = append(l, raw(true), raw(true, 0), raw(true, 0, 0, 0), raw(false, 0))
	}
	return l
}

func TestP181None(t *testing.T) {
	stands(t, "None", none(), 1, nil)
	has(t, "None", none(), nil, greats())
	stands(t, "the Rest of None", every(), 1, nil)
	has(t, "the Rest of None", every(), greats(), nil)
	if none() == none() {
		t.Error("None is the same memory twice")
	}
}

// Above a number are those from the next one on.
func TestP181Above(t *testing.T) {
	for _, k := range greats() {
		s := periods.Above(k)
		what := "Above " + tellInt(k)
		stands(t, what, s, 1, bigs(plus(k, 1)))
		has(t, what, s, bigs(plus(k, 1), plus(k, 2), plus(k, 4097), wide(50)), bigs(k, plus(k, -1), plus(k, -4097), opposite(wide(50))))
		for _, other := range raws(k) {
			alike(t, what+", not as it should stand", periods.Above(other), s)
		}
	}
	// The cuts, told without the layers below.
	stands(t, "Above -1", above(-1), 1, bigs(api.Int{}))
	stands(t, "Above -2", above(-2), 1, numbers(-1))
	stands(t, "Above 2^32 - 1", above(top), 1, bigs(raw(false, 0, 1)))
	stands(t, "Above -2^32", periods.Above(raw(true, 0, 1)), 1, bigs(raw(true, top)))
	stands(t, "Above -2^64", periods.Above(raw(true, 0, 0, 1)), 1, bigs(raw(true, top, top)))
}

// refusesClass fails unless Class answers that error, and no set.
func refusesClass(t *testing.T, d, r api.Int, want api.Errno) {
	t.Helper()
	if s, e := periods.Class(d, r); s != nil || e != want {
		t.Errorf("Class(%s, %s): %s, %v, want %v", tellInt(d), tellInt(r), short(tellSet(s)), e, want)
	}
}

// All small classes, with remainders below 0, among the divisor's own, and far above.
func TestP181Class(t *testing.T) {
	for d := -70; d <= 70; d++ {
		for r := -75; r <= 75; r++ {
			if d == 0 {
				refusesClass(t, n(d), n(r), api.ErrZero)
				continue
			}
			period := max(d, -d)
			what := "Class(" + strconv.Itoa(d) + ", " + strconv.Itoa(r) + ")"
			stands(t, what, class(d, r), period, nil)
			hasJust(t, what, class(d, r), func(k int) bool { return modulo(k-r, period) == 0 })
		}
	}
}

// Remainders of many limbs, and divisors at the ends of words and at the limit.
func TestP181ClassFar(t *testing.T) {
	for _, d := range []int{1, 2, 3, 63, 64, 65, 127, 128, 129, 1000, 4095, 4096} {
		for _, r := range greats() {
			for _, sign := range []int{1, -1} {
				s := classOf(t, n(sign*d), r)
				stands(t, "Class", s, d, nil)
				_, left, _ := zint.DivMod(r, n(d))
				far := zint.Mul(n(d), wide(7))
				has(t, "Class", s, bigs(r, left, plus(r, d), plus(r, -d), zint.Add(r, far), zint.Sub(r, far)), nil)
				if d > 1 {
					has(t, "Class", s, nil, bigs(plus(r, 1), plus(r, -1), plus(left, -1), plus(zint.Add(r, far), 1), plus(zint.Sub(r, far), -1)))
				}
			}
		}
	}
	// Just one remainder of each period is in it.
	for _, d := range []int{1, 64, 65, 4095, 4096} {
		for _, from := range []int{0, -d, 7 * d} {
			count := 0
			for k := range d {
				if class(d, d/2).Has(n(from + k)) {
					count++
				}
			}
			if count != 1 {
				t.Errorf("Class(%d, %d) has %d from %d on", d, d/2, count, from)
			}
		}
	}
}

func classOf(t *testing.T, d, r api.Int) *periods.Set {
	t.Helper()
	s, e := periods.Class(d, r)
	if s == nil || e != api.OK {
		t.Fatalf("Class(%s, %s): %v", tellInt(d), tellInt(r), e)
	}
	return s
}

// A divisor of 0 is refused first; one of the magnitude MaxPeriod is fine, one more is not, on both sides of 0.
func TestP181ClassRefused(t *testing.T) {
	for _, r := range greats() {
		for _, zero := range append(raws(n(0)), n(0)) {
			refusesClass(t, zero, r, api.ErrZero)
		}
		for _, d := range bigs(n(4097), n(-4097), n(5000), n(top), n(-top), wide(2), opposite(wide(2)), plus(wide(2), 1), plus(wide(3), 4096), opposite(wide(3)), widest(40), opposite(wide(40)), raw(true, 4097, 0, 0)) {
			refusesClass(t, d, r, api.ErrPeriod)
		}
		stands(t, "Class(4096)", classOf(t, n(4096), r), 4096, nil)
		stands(t, "Class(-4096)", classOf(t, n(-4096), r), 4096, nil)
	}
}

// Numbers that don't stand as they should are taken for what they say.
func TestP181ClassAsTheySay(t *testing.T) {
	for _, d := range []int{1, 2, 5, -5, 64, 4096, -4096} {
		for _, r := range bigs(n(0), n(3), n(-3), wide(3), opposite(widest(4))) {
			want := classOf(t, n(d), r)
			for _, rawD := range raws(n(d)) {
				for _, rawR := range append(raws(r), r) {
					alike(t, "Class", classOf(t, rawD, rawR), want)
				}
			}
		}
	}
}
