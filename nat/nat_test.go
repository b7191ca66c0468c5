package nat_test

import (
	"testing"

	"riddle/api"
	"riddle/nat"
)

func TestP11Of(t *testing.T) {
	for _, c := range []struct {
		n    uint64
		want []uint32
	}{
		{0, nil}, {1, limbs(1)}, {5, limbs(5)}, {top, limbs(top)}, {1 << 32, limbs(0, 1)}, {1<<32 + 7, limbs(7, 1)},
		{1 << 63, limbs(0, 1<<31)}, {1<<64 - 1, limbs(top, top)}, {top << 32, limbs(0, top)},
	} {
		if got := nat.Of(c.n); !sameLimbs(got, c.want) {
			t.Errorf("Of(%d): %v, want %v", c.n, got, c.want)
		}
	}
}

func TestP11Cmp(t *testing.T) {
	for _, c := range []struct {
		a, b []uint32
		want int
	}{
		{nil, nil, 0}, {nil, limbs(0), 0}, {limbs(5, 0, 0), limbs(5), 0}, {limbs(0, 1), limbs(9), 1}, {limbs(9), limbs(0, 1), -1},
		{limbs(9, 1), limbs(8, 2), -1}, {limbs(8, 2, 0), limbs(9, 1), 1}, {limbs(1, 7), limbs(2, 7), -1}, {limbs(9, 0, 0), limbs(1, 1), -1},
		{limbs(1 << 31), limbs(1<<31 - 1), 1},
	} {
		if got := nat.Cmp(c.a, c.b); got != c.want {
			t.Errorf("Cmp(%v, %v): %d, want %d", c.a, c.b, got, c.want)
		}
	}
	pairs(func(a, b []uint32) {
		if got, want := nat.Cmp(a, b), slowCmp(slow(a), slow(b)); got != want {
			t.Errorf("Cmp(%v, %v): %d, want %d", a, b, got, want)
		}
	})
}

func TestP11Bits(t *testing.T) {
	for _, c := range []struct {
		a    []uint32
		want int
	}{
		{nil, 0}, {limbs(), 0}, {limbs(0), 0}, {limbs(0, 0), 0}, {limbs(1), 1}, {limbs(1, 0, 0), 1}, {limbs(2), 2}, {limbs(3), 2}, {limbs(4), 3},
		{limbs(top), 32}, {limbs(1 << 31), 32}, {limbs(1<<31 - 1), 31}, {limbs(0, 1), 33}, {limbs(top, 1), 33}, {limbs(0, top), 64}, {run(9, top), 288},
	} {
		if got := nat.Bits(c.a); got != c.want {
			t.Errorf("Bits(%v): %d, want %d", c.a, got, c.want)
		}
	}
	// powers[k] is 2^k.
	powers := []string{"1"}
	for k := range 800 {
		powers = append(powers, slowAdd(powers[k], powers[k]))
	}
	for _, a := range edges() {
		k, n := nat.Bits(a), slow(a)
		if n != "0" && (k < 1 || slowCmp(powers[k-1], n) > 0) || slowCmp(n, powers[k]) >= 0 {
			t.Errorf("Bits(%v): %d", a, k)
		}
	}
}

func TestP12Add(t *testing.T) {
	for _, c := range []struct{ a, b, want []uint32 }{
		{nil, nil, nil}, {limbs(0), nil, nil}, {limbs(0, 0), limbs(0), nil}, {limbs(5), nil, limbs(5)}, {nil, limbs(5, 0), limbs(5)},
		{limbs(2), limbs(3), limbs(5)}, {limbs(top), limbs(1), limbs(0, 1)}, {limbs(1), run(6, top), append(run(6, 0), 1)},
		{run(3, top), run(3, top), limbs(top-1, top, top, 1)}, {limbs(1, 2, 3), limbs(4), limbs(5, 2, 3)},
	} {
		if got := nat.Add(c.a, c.b); !sameLimbs(got, c.want) {
			t.Errorf("Add(%v, %v): %v, want %v", c.a, c.b, got, c.want)
		}
	}
	pairs(func(a, b []uint32) {
		wantBare(t, "Add", nat.Add(a, b), slowAdd(slow(a), slow(b)))
	})
}

func TestP12Mul(t *testing.T) {
	for _, c := range []struct{ a, b, want []uint32 }{
		{nil, nil, nil}, {nil, limbs(7), nil}, {limbs(7, 7), limbs(0, 0), nil}, {limbs(1, 0), limbs(7), limbs(7)}, {limbs(6), limbs(7), limbs(42)},
		{limbs(top), limbs(top), limbs(1, top-1)}, {limbs(0, 1), limbs(0, 0, 3), limbs(0, 0, 0, 3)}, {run(2, top), run(2, top), limbs(1, 0, top-1, top)},
	} {
		if got := nat.Mul(c.a, c.b); !sameLimbs(got, c.want) {
			t.Errorf("Mul(%v, %v): %v, want %v", c.a, c.b, got, c.want)
		}
	}
	pairs(func(a, b []uint32) {
		wantBare(t, "Mul", nat.Mul(a, b), slowMul(slow(a), slow(b)))
	})
}

func TestP12Sub(t *testing.T) {
	for _, c := range []struct{ a, b, want []uint32 }{
		{nil, nil, nil}, {limbs(3, 0), limbs(3), nil}, {limbs(3), limbs(3, 0, 0), nil}, {limbs(0, 1), limbs(1), limbs(top)}, {limbs(7, 0), nil, limbs(7)},
		{append(run(6, 0), 1), limbs(1), run(6, top)}, {limbs(5, 1), limbs(6), limbs(top)}, {limbs(9, 4, 2), limbs(9, 4, 1), limbs(0, 0, 1)},
	} {
		if got, e := nat.Sub(c.a, c.b); !sameLimbs(got, c.want) || e != api.OK {
			t.Errorf("Sub(%v, %v): %v %v, want %v", c.a, c.b, got, e, c.want)
		}
	}
	pairs(func(a, b []uint32) {
		got, e := nat.Sub(a, b)
		if slowCmp(slow(a), slow(b)) < 0 {
			if len(got) > 0 || e != api.ErrNeg {
				t.Errorf("Sub(%v, %v): %v %v", a, b, got, e)
			}
			return
		}
		if e != api.OK {
			t.Errorf("Sub(%v, %v): %v", a, b, e)
		}
		wantBare(t, "Sub", got, slow(got))
		if back := slowAdd(slow(got), slow(b)); back != slow(a) {
			t.Errorf("Sub(%v, %v): %v", a, b, got)
		}
	})
}

func TestP12SubBelow(t *testing.T) {
	for _, c := range []struct{ a, b []uint32 }{
		{nil, limbs(1)}, {limbs(0, 0), limbs(1)}, {limbs(1), limbs(2)}, {limbs(9), limbs(0, 1)}, {limbs(9, 0, 0), limbs(0, 1)}, {run(3, top), append(run(3, 0), 1)},
		{limbs(1, 7), limbs(2, 7)},
	} {
		if got, e := nat.Sub(c.a, c.b); len(got) > 0 || e != api.ErrNeg {
			t.Errorf("Sub(%v, %v): %v %v", c.a, c.b, got, e)
		}
	}
}

// wantDivided fails unless q and r are what a divided by b is.
func wantDivided(t *testing.T, a, b []uint32) {
	t.Helper()
	q, r, e := nat.DivMod(a, b)
	if slow(b) == "0" {
		if len(q) > 0 || len(r) > 0 || e != api.ErrZero {
			t.Errorf("DivMod(%v, %v): %v %v %v", a, b, q, r, e)
		}
		return
	}
	if e != api.OK || slowCmp(slow(r), slow(b)) >= 0 {
		t.Errorf("DivMod(%v, %v): %v %v %v", a, b, q, r, e)
	}
	wantBare(t, "quotient", q, slow(q))
	wantBare(t, "rest", r, slow(r))
	if back := slowAdd(slowMul(slow(q), slow(b)), slow(r)); back != slow(a) {
		t.Errorf("DivMod(%v, %v): %v %v", a, b, q, r)
	}
}

func TestP12DivMod(t *testing.T) {
	third := uint32(top / 3)
	for _, c := range []struct{ a, b, q, r []uint32 }{
		{limbs(0, 0, 1), limbs(3), limbs(third, third), limbs(1)}, {limbs(2), limbs(7), nil, limbs(2)}, {nil, limbs(7), nil, nil}, {limbs(0, 0), limbs(1, 2), nil, nil},
		{limbs(7, 0), limbs(7), limbs(1), nil}, {limbs(7, 9), limbs(7, 9, 0), limbs(1), nil}, {limbs(1, 2, 3, 0), limbs(1, 0), limbs(1, 2, 3), nil},
		{limbs(9, 1), limbs(0, 2), nil, limbs(9, 1)}, {limbs(5, 5), limbs(0, 0, 1), nil, limbs(5, 5)}, {run(4, top), run(2, top), limbs(1, 0, 1), nil},
		{limbs(5, 1), limbs(10), limbs(429496730), limbs(1)}, {limbs(3, 0, 1<<31), limbs(1, 0, 1<<29), limbs(3), limbs(0, 0, 1<<29)},
	} {
		q, r, e := nat.DivMod(c.a, c.b)
		if !sameLimbs(q, c.q) || !sameLimbs(r, c.r) || e != api.OK {
			t.Errorf("DivMod(%v, %v): %v %v %v, want %v %v", c.a, c.b, q, r, e, c.q, c.r)
		}
	}
	pairs(func(a, b []uint32) { wantDivided(t, a, b) })
}

func TestP12DivModByZero(t *testing.T) {
	for _, a := range [][]uint32{nil, {0}, {7}, {7, 7, 7}} {
		for _, b := range [][]uint32{nil, {}, {0}, {0, 0, 0}} {
			if q, r, e := nat.DivMod(a, b); len(q) > 0 || len(r) > 0 || e != api.ErrZero {
				t.Errorf("DivMod(%v, %v): %v %v %v", a, b, q, r, e)
			}
		}
	}
}

// Numbers just below and just above a multiple are those at which a limb of the quotient is guessed wrongly.
func TestP12DivModNearMultiples(t *testing.T) {
	d := &dice{state: 3}
	for range 3000 {
		b := append(d.list(4), d.next()|1)
		q := d.list(4)
		multiple := nat.Mul(q, b)
		wantDivided(t, multiple, b)
		wantDivided(t, nat.Add(multiple, d.list(2)), b)
		if below, e := nat.Sub(multiple, limbs(1)); e == api.OK {
			wantDivided(t, below, b)
		}
	}
}

// The guesses that are too great by 1 or 2 at their highest limbs.
func TestP12DivModHardGuesses(t *testing.T) {
	heads := []uint32{1 << 31, 1<<31 + 1, 1<<31 - 1, 1, 2, 1 << 29, top, top - 1}
	tails := []uint32{0, 1, 2, top, top - 1, 1 << 31}
	for _, head := range heads {
		for _, tail := range tails {
			for _, low := range tails {
				b := limbs(low, tail, head)
				for _, x := range tails {
					for _, y := range tails {
						wantDivided(t, limbs(x, y, tail, head), b)
						wantDivided(t, limbs(x, y, x, tail, head-1), b)
					}
				}
			}
		}
	}
}

func smallGcd(a, b int) int {
	for d := max(a, b); d > 0; d-- {
		if a%d == 0 && b%d == 0 {
			return d
		}
	}
	return 0
}

func smallLcm(a, b int) int {
	for m := 1; m <= a*b; m++ {
		if m%a == 0 && m%b == 0 {
			return m
		}
	}
	return 0
}

func TestP13Small(t *testing.T) {
	for a := range 40 {
		for b := range 40 {
			x, y := limbs(uint32(a)), limbs(uint32(b), 0)
			wantBare(t, "Gcd", nat.Gcd(x, y), slowSmall(uint32(smallGcd(a, b))))
			if a == 0 || b == 0 {
				wantBare(t, "Lcm", nat.Lcm(x, y), "0")
				continue
			}
			wantBare(t, "Lcm", nat.Lcm(x, y), slowSmall(uint32(smallLcm(a, b))))
		}
	}
}

func TestP13Noughts(t *testing.T) {
	for _, zero := range [][]uint32{nil, {}, {0}, {0, 0, 0}} {
		for _, a := range edges() {
			wantBare(t, "Gcd(0, a)", nat.Gcd(zero, a), slow(a))
			wantBare(t, "Gcd(a, 0)", nat.Gcd(a, zero), slow(a))
			wantBare(t, "Lcm(0, a)", nat.Lcm(zero, a), "0")
			wantBare(t, "Lcm(a, 0)", nat.Lcm(a, zero), "0")
		}
	}
}

// Two numbers that stand side by side have no divisor in common, nor have two odd ones that differ by 2, so that of
// their products by g it is g.
func TestP13Great(t *testing.T) {
	d := &dice{state: 5}
	for range 500 {
		g, x := append(d.list(4), d.next()|1), append(d.list(4), d.next()|1)
		y := nat.Add(x, limbs(1))
		a, b := nat.Mul(g, x), nat.Mul(g, y)
		lcm := slowMul(slow(g), slowMul(slow(x), slow(y)))
		wantBare(t, "Gcd", nat.Gcd(a, b), slow(g))
		wantBare(t, "Gcd", nat.Gcd(b, a), slow(g))
		wantBare(t, "Lcm", nat.Lcm(a, b), lcm)
		wantBare(t, "Lcm", nat.Lcm(b, a), lcm)
		odd := append(limbs(x[0]|1), x[1:]...)
		wantBare(t, "Gcd", nat.Gcd(nat.Mul(g, odd), nat.Mul(g, nat.Add(odd, limbs(2)))), slow(g))
	}
}

// Of two numbers of Fibonacci that stand side by side the quotient is always 1: no other pair takes as many steps.
func TestP13ManySteps(t *testing.T) {
	a, b := limbs(1), limbs(1)
	for range 600 {
		a, b = b, nat.Add(a, b)
	}
	wantBare(t, "Gcd", nat.Gcd(a, b), "1")
	wantBare(t, "Lcm", nat.Lcm(b, a), slowMul(slow(a), slow(b)))
}

func TestP14Text(t *testing.T) {
	for _, c := range []struct {
		a    []uint32
		want string
	}{
		{nil, "0"}, {limbs(), "0"}, {limbs(0), "0"}, {limbs(0, 0), "0"}, {limbs(7, 0), "7"}, {limbs(0, 1), "4294967296"}, {limbs(top), "4294967295"},
		{limbs(999999999), "999999999"}, {limbs(1000000000), "1000000000"}, {limbs(1000000007), "1000000007"},
		{limbs(2808348672, 232830643), "1000000000000000000"}, {limbs(2808348671, 232830643), "999999999999999999"},
		{limbs(2808348679, 232830643), "1000000000000000007"}, {run(4, top), "340282366920938463463374607431768211455"},
	} {
		if got := nat.Text(c.a); got != c.want {
			t.Errorf("Text(%v): %s, want %s", c.a, got, c.want)
		}
	}
	pairs(func(a, _ []uint32) {
		if got, want := nat.Text(a), slow(a); got != want {
			t.Errorf("Text(%v): %s, want %s", a, got, want)
		}
	})
}

func TestP14Parse(t *testing.T) {
	for _, c := range []struct {
		s    string
		want []uint32
	}{
		{"0", nil}, {"7", limbs(7)}, {"4294967295", limbs(top)}, {"4294967296", limbs(0, 1)}, {"18446744073709551616", limbs(0, 0, 1)},
		{"100000000", limbs(100000000)}, {"1000000000", limbs(1000000000)}, {"1000000000000000000", limbs(2808348672, 232830643)},
		{"340282366920938463463374607431768211455", run(4, top)},
	} {
		if got, e := nat.Parse(c.s); !sameLimbs(got, c.want) || e != api.OK {
			t.Errorf("Parse(%s): %v %v, want %v", c.s, got, e, c.want)
		}
	}
	// Texts of all lengths, so that each length of a piece at the front is met.
	s := ""
	for range 60 {
		s += string(rune('1' + len(s)%9))
		n, e := nat.Parse(s)
		if e != api.OK {
			t.Errorf("Parse(%s): %v", s, e)
		}
		wantBare(t, "Parse", n, s)
	}
}

func TestP14NoNumber(t *testing.T) {
	for _, s := range []string{
		"", "007", "00", "01", "+5", "-5", "-0", "+0", "-", "+", " ", "1 ", " 1", "1\n", "\t1", "1e3", "1.0", ".", "1_000", "1,000", "0x10", "a", "12a", "1-2",
		"0 ", "1/", "1:", "/", ":", "\x00", "1\x00", "\xb2", "\u0663", "1\u0663", "\uff11", "\u00b2", "12345678901234567890x", "x12345678901234567890",
		"00000000000000000000", "1234567890123456789012345678901234567890 ",
	} {
		if n, e := nat.Parse(s); len(n) > 0 || e != api.ErrForm {
			t.Errorf("Parse(%q): %v %v", s, n, e)
		}
	}
	for b := range 256 {
		s := string([]byte{byte(b)})
		if _, e := nat.Parse(s); (e == api.OK) != ('0' <= b && b <= '9') {
			t.Errorf("Parse(%q): %v", s, e)
		}
		if _, e := nat.Parse("4294967296" + s + "4294967296"); (e == api.OK) != ('0' <= b && b <= '9') {
			t.Errorf("Parse with %q inside: %v", s, e)
		}
	}
}
