package zint_test

import (
	"math"
	"testing"

	"riddle/api"
	"riddle/zint"
)

func TestP21Of(t *testing.T) {
	for _, c := range []struct {
		n    int64
		want api.Int
	}{
		{0, over()}, {1, over(1)}, {-1, under(1)}, {top, over(top)}, {-top, under(top)}, {1 << 32, over(0, 1)}, {-1 << 32, under(0, 1)},
		{1<<32 + 7, over(7, 1)}, {-1<<32 - 7, under(7, 1)}, {1 << 31, over(1 << 31)}, {-1 << 31, under(1 << 31)},
		{math.MaxInt64, over(top, 1<<31-1)}, {-math.MaxInt64, under(top, 1<<31-1)}, {math.MinInt64, under(0, 1<<31)},
	} {
		if got := zint.Of(c.n); !same(got, c.want) {
			t.Errorf("Of(%d): %v, want %v", c.n, got, c.want)
		}
	}
}

func TestP21Norm(t *testing.T) {
	for _, c := range []struct{ a, want api.Int }{
		{under(0, 0), over()}, {under(5, 0), under(5)}, {over(5, 0, 0), over(5)}, {under(), over()}, {over(0), over()},
		{over(0, 7), over(0, 7)}, {under(0, 7, 0), under(0, 7)}, {under(3), under(3)},
	} {
		if got := zint.Norm(c.a); !same(got, c.want) {
			t.Errorf("Norm(%v): %v, want %v", c.a, got, c.want)
		}
	}
	pairs(func(a, _ api.Int) { wantNumber(t, "Norm", zint.Norm(a), wideOf(a)) })
}

func TestP21Valid(t *testing.T) {
	for _, a := range []api.Int{{}, {Mag: []uint32{}}, over(1), under(1), over(0, 1), under(0, 0, 1), over(top, top)} {
		if !zint.Valid(a) {
			t.Errorf("Valid(%v): false", a)
		}
	}
	for _, a := range []api.Int{
		{Neg: true}, {Neg: true, Mag: []uint32{}}, over(0), under(0), over(0, 0), under(0, 0), over(5, 0), under(5, 0), over(1, 2, 0), under(0, 1, 0, 0),
	} {
		if zint.Valid(a) {
			t.Errorf("Valid(%v): true", a)
		}
	}
	pairs(func(a, _ api.Int) {
		if zint.Valid(a) != stands(a) {
			t.Errorf("Valid(%v): %t", a, !stands(a))
		}
	})
}

func TestP21Int64(t *testing.T) {
	for _, c := range []struct {
		a    api.Int
		want int64
	}{
		{over(), 0}, {under(), 0}, {under(0, 0, 0), 0}, {over(7), 7}, {under(7, 0, 0), -7}, {over(top), top}, {under(top), -top}, {over(0, 1), 1 << 32},
		{under(0, 1, 0), -1 << 32}, {over(1<<31, 5), 5<<32 + 1<<31}, {over(top, 1<<31-1), math.MaxInt64}, {over(top, 1<<31-1, 0), math.MaxInt64},
		{over(top-1, 1<<31-1), math.MaxInt64 - 1}, {under(top, 1<<31-1), math.MinInt64 + 1}, {under(0, 1<<31), math.MinInt64}, {under(0, 1<<31, 0, 0), math.MinInt64},
	} {
		if got, ok := zint.Int64(c.a); got != c.want || !ok {
			t.Errorf("Int64(%v): %d %t, want %d", c.a, got, ok, c.want)
		}
		if got, ok := zint.Int64(zint.Of(c.want)); got != c.want || !ok {
			t.Errorf("Int64 of Of(%d): %d %t", c.want, got, ok)
		}
	}
	for _, a := range []api.Int{
		over(0, 1<<31), over(0, 1<<31, 0), over(1, 1<<31), under(1, 1<<31), under(0, 1<<31+1), over(top, top), under(top, top), over(0, 0, 1), under(0, 0, 1),
		over(5, 0, 1), under(5, 0, 1), over(0, 0, 0, 1), over(run(9, top)...), under(run(9, top)...),
	} {
		if got, ok := zint.Int64(a); got != 0 || ok {
			t.Errorf("Int64(%v): %d %t", a, got, ok)
		}
	}
	pairs(func(a, b api.Int) {
		for _, a := range []api.Int{a, b} {
			got, ok := zint.Int64(a)
			if fits := wideSmall(int64(wideOf(a)[0])|int64(wideOf(a)[1])<<32) == wideOf(a); ok != fits {
				t.Errorf("Int64(%v): %d %t", a, got, ok)
			}
			if ok && wideSmall(got) != wideOf(a) {
				t.Errorf("Int64(%v): %d", a, got)
			}
		}
	})
}

func TestP22SignAndOrder(t *testing.T) {
	for _, zero := range noughts() {
		for _, other := range noughts() {
			if zint.Sign(zero) != 0 || zint.Cmp(zero, other) != 0 {
				t.Errorf("Sign(%v) %d, Cmp with %v %d", zero, zint.Sign(zero), other, zint.Cmp(zero, other))
			}
		}
	}
	pairs(func(a, b api.Int) {
		if got, want := zint.Sign(a), wideOf(a).sign(); got != want {
			t.Errorf("Sign(%v): %d, want %d", a, got, want)
		}
		if got, want := zint.Cmp(a, b), wideOf(a).minus(wideOf(b)).sign(); got != want {
			t.Errorf("Cmp(%v, %v): %d, want %d", a, b, got, want)
		}
	})
}

func TestP22Reckoned(t *testing.T) {
	pairs(func(a, b api.Int) {
		v, w := wideOf(a), wideOf(b)
		wantNumber(t, "Neg", zint.Neg(a), v.opposite())
		wantNumber(t, "Abs", zint.Abs(a), v.magnitude())
		wantNumber(t, "Add", zint.Add(a, b), v.plus(w))
		wantNumber(t, "Sub", zint.Sub(a, b), v.minus(w))
		wantNumber(t, "Mul", zint.Mul(a, b), v.times(w))
	})
}

func TestP22Small(t *testing.T) {
	for a := -20; a <= 20; a++ {
		for b := -20; b <= 20; b++ {
			for _, c := range []struct {
				name string
				got  api.Int
				want int
			}{
				{"Neg", zint.Neg(small(a)), -a}, {"Abs", zint.Abs(small(a)), max(a, -a)},
				{"Add", zint.Add(small(a), small(b)), a + b}, {"Sub", zint.Sub(small(a), small(b)), a - b}, {"Mul", zint.Mul(small(a), small(b)), a * b},
			} {
				if !same(c.got, small(c.want)) {
					t.Errorf("%s of %d and %d: %v, want %d", c.name, a, b, c.got, c.want)
				}
			}
		}
	}
}

func TestP23Small(t *testing.T) {
	for _, c := range []struct{ a, b, q, r int }{
		{7, 2, 3, 1}, {-7, 2, -4, 1}, {7, -2, -4, -1}, {-7, -2, 3, -1}, {6, -2, -3, 0}, {-6, 2, -3, 0}, {6, 2, 3, 0}, {-6, -2, 3, 0},
		{0, 5, 0, 0}, {0, -5, 0, 0}, {1, 5, 0, 1}, {-1, 5, -1, 4}, {1, -5, -1, -4}, {-1, -5, 0, -1}, {5, 1, 5, 0}, {5, -1, -5, 0}, {-5, 1, -5, 0},
	} {
		q, r, e := zint.DivMod(small(c.a), small(c.b))
		if !same(q, small(c.q)) || !same(r, small(c.r)) || e != api.OK {
			t.Errorf("DivMod(%d, %d): %v %v %v, want %d %d", c.a, c.b, q, r, e, c.q, c.r)
		}
	}
	for a := -40; a <= 40; a++ {
		for b := -15; b <= 15; b++ {
			if b == 0 {
				continue
			}
			q := int(math.Floor(float64(a) / float64(b)))
			x, y, e := zint.DivMod(small(a), small(b))
			if !same(x, small(q)) || !same(y, small(a-q*b)) || e != api.OK {
				t.Errorf("DivMod(%d, %d): %v %v %v, want %d %d", a, b, x, y, e, q, a-q*b)
			}
		}
	}
}

// wantDivided fails unless q and r are what a division by b, which is not 0, should answer.
func wantDivided(t *testing.T, a, b api.Int) {
	t.Helper()
	q, r, e := zint.DivMod(a, b)
	if e != api.OK || !stands(q) || !stands(r) {
		t.Errorf("DivMod(%v, %v): %v %v %v", a, b, q, r, e)
	}
	divisor, rest := wideOf(b), wideOf(r)
	if wideOf(q).times(divisor).plus(rest) != wideOf(a) {
		t.Errorf("DivMod(%v, %v): %v %v don't give it back", a, b, q, r)
	}
	if rest.sign() != 0 && rest.sign() != divisor.sign() {
		t.Errorf("DivMod(%v, %v): the rest %v is on the wrong side", a, b, r)
	}
	if rest.magnitude().minus(divisor.magnitude()).sign() >= 0 {
		t.Errorf("DivMod(%v, %v): the rest %v is too great", a, b, r)
	}
}

func TestP23Great(t *testing.T) {
	pairs(func(a, b api.Int) {
		if wideOf(b).sign() == 0 {
			return
		}
		wantDivided(t, a, b)
		// Products leave nothing, and their neighbours 1 or all but 1.
		product := api.Int{Neg: a.Neg, Mag: zint.Mul(a, b).Mag}
		if _, r, _ := zint.DivMod(product, b); len(r.Mag) > 0 {
			t.Errorf("DivMod(%v, %v): the rest is %v", product, b, r)
		}
		wantDivided(t, zint.Add(product, over(1)), b)
		wantDivided(t, zint.Sub(product, over(1)), b)
	})
}

func TestP23ByNought(t *testing.T) {
	for _, zero := range noughts() {
		for _, a := range edges() {
			if q, r, e := zint.DivMod(a, zero); !same(q, api.Int{}) || !same(r, api.Int{}) || e != api.ErrZero {
				t.Errorf("DivMod(%v, %v): %v %v %v", a, zero, q, r, e)
			}
		}
	}
}

func TestP24Examples(t *testing.T) {
	for _, c := range []struct {
		l        []int
		gcd, lcm int
	}{
		{nil, 0, 1}, {[]int{}, 0, 1}, {[]int{0}, 0, 0}, {[]int{1}, 1, 1}, {[]int{-1}, 1, 1}, {[]int{7}, 7, 7}, {[]int{-7}, 7, 7},
		{[]int{12, -18}, 6, 36}, {[]int{0, 0}, 0, 0}, {[]int{0, -5}, 5, 0}, {[]int{-5, 0}, 5, 0}, {[]int{4, -6}, 2, 12}, {[]int{3, 0}, 3, 0}, {[]int{-3, -3}, 3, 3},
		{[]int{6, 10, 15}, 1, 30}, {[]int{-12, 18, -30}, 6, 180}, {[]int{0, 0, 0}, 0, 0}, {[]int{0, 4, 0, -6}, 2, 0}, {[]int{8, 0, 12, 20}, 4, 0},
		{[]int{1, 2, 3, 4, 5, 6, 7, 8, 9, 10}, 1, 2520}, {[]int{2, -4, 8, -16, 32}, 2, 32}, {[]int{32, 16, 8, 4, 2}, 2, 32},
	} {
		var l []api.Int
		for _, n := range c.l {
			l = append(l, small(n))
		}
		if got := zint.Gcd(l...); !same(got, small(c.gcd)) {
			t.Errorf("Gcd(%v): %v, want %d", c.l, got, c.gcd)
		}
		if got := zint.Lcm(l...); !same(got, small(c.lcm)) {
			t.Errorf("Lcm(%v): %v, want %d", c.l, got, c.lcm)
		}
	}
}

// dividesAll tells whether d divides all numbers of a list; 0 divides 0 alone.
func dividesAll(d int, l ...int) bool {
	for _, n := range l {
		if d == 0 && n != 0 || d != 0 && n%d != 0 {
			return false
		}
	}
	return true
}

// smallGcd and smallLcm look through all numbers that could be it.
func smallGcd(l ...int) int {
	for d := 10; d > 0; d-- {
		if dividesAll(d, l...) && !dividesAll(0, l...) {
			return d
		}
	}
	return 0
}

func smallLcm(l ...int) int {
search:
	for m := 1; m <= 1000; m++ {
		for _, n := range l {
			if !dividesAll(n, m) {
				continue search
			}
		}
		return m
	}
	return 0
}

func TestP24Small(t *testing.T) {
	for a := -10; a <= 10; a++ {
		for b := -10; b <= 10; b++ {
			for c := -10; c <= 10; c++ {
				if got, want := zint.Gcd(small(a), small(b), small(c)), small(smallGcd(a, b, c)); !same(got, want) {
					t.Errorf("Gcd(%d, %d, %d): %v, want %v", a, b, c, got, want)
				}
				if got, want := zint.Lcm(small(a), small(b), small(c)), small(smallLcm(a, b, c)); !same(got, want) {
					t.Errorf("Lcm(%d, %d, %d): %v, want %v", a, b, c, got, want)
				}
			}
		}
	}
}

func TestP24One(t *testing.T) {
	for _, a := range edges() {
		wantNumber(t, "Gcd of one", zint.Gcd(a), wideOf(a).magnitude())
		wantNumber(t, "Lcm of one", zint.Lcm(a), wideOf(a).magnitude())
		for _, zero := range noughts() {
			wantNumber(t, "Gcd with 0", zint.Gcd(a, zero), wideOf(a).magnitude())
			wantNumber(t, "Gcd with 0 ahead", zint.Gcd(zero, a), wideOf(a).magnitude())
			wantNumber(t, "Lcm with 0", zint.Lcm(a, zero), wide{})
			wantNumber(t, "Lcm with 0 ahead", zint.Lcm(zero, a), wide{})
			wantNumber(t, "Lcm with 0 between", zint.Lcm(over(3), zero, a), wide{})
		}
	}
}

// Two numbers that stand side by side have no divisor in common, so that of their products by g it is g.
func TestP24Great(t *testing.T) {
	d := &dice{state: 21}
	for range 500 {
		g, x := d.number(4), d.number(4)
		g.Mag, x.Mag = append(g.Mag, 3), append(x.Mag, 5)
		factor, first := wideOf(g), wideOf(x)
		second := first.plus(wideSmall(1))
		a, b := zint.Mul(g, x), zint.Mul(g, zint.Add(x, over(1)))
		lcm := factor.times(first).times(second).magnitude()
		wantNumber(t, "Gcd", zint.Gcd(a, b), factor.magnitude())
		wantNumber(t, "Gcd", zint.Gcd(b, api.Int{}, a, a), factor.magnitude())
		wantNumber(t, "Lcm", zint.Lcm(a, b), lcm)
		wantNumber(t, "Lcm", zint.Lcm(b, a, x, g, over(1)), lcm)
	}
}

func TestP24Many(t *testing.T) {
	var l []api.Int
	want := wideSmall(1)
	for i := range 300 {
		l = append(l, small([]int{2, -3, 5, -7, 11, 13}[i%6]*30030))
	}
	for _, p := range []int64{2, 3, 5, 7, 11, 13} {
		want = want.times(wideSmall(p * p))
	}
	wantNumber(t, "Gcd of many", zint.Gcd(l...), wideSmall(30030))
	wantNumber(t, "Lcm of many", zint.Lcm(l...), want)
	l[299] = under(0)
	wantNumber(t, "Gcd of many", zint.Gcd(l...), wideSmall(30030))
	wantNumber(t, "Lcm of many and 0", zint.Lcm(l...), wide{})
}

func TestP25Limbs(t *testing.T) {
	for _, c := range []struct {
		a    api.Int
		want int
	}{
		{over(), 0}, {under(), 0}, {over(0, 0), 0}, {under(0), 0}, {over(1), 1}, {under(1), 1}, {over(top), 1}, {over(1<<31, 0, 0), 1}, {over(0, 1), 2},
		{under(top, 1<<31), 2}, {over(top, top, 0), 2}, {under(0, 0, 1), 3}, {over(run(8, top)...), 8}, {under(append(run(8, 0), 1)...), 9},
		{over(append(run(40, 1), run(40, 0)...)...), 40},
	} {
		if got := zint.Limbs(c.a); got != c.want {
			t.Errorf("Limbs(%v): %d, want %d", c.a, got, c.want)
		}
	}
}

func TestP25Text(t *testing.T) {
	for _, zero := range noughts() {
		if got := zint.Text(zero); got != "0" {
			t.Errorf("Text(%v): %s", zero, got)
		}
	}
	for _, c := range []struct {
		a    api.Int
		want string
	}{
		{over(5), "5"}, {under(12), "-12"}, {under(12, 0), "-12"}, {over(10), "10"}, {under(1000000000), "-1000000000"}, {over(0, 1), "4294967296"},
		{under(top), "-4294967295"}, {over(0, 1<<31), "9223372036854775808"}, {under(0, 1<<31), "-9223372036854775808"},
		{under(run(4, top)...), "-340282366920938463463374607431768211455"},
	} {
		if got := zint.Text(c.a); got != c.want {
			t.Errorf("Text(%v): %s, want %s", c.a, got, c.want)
		}
	}
	pairs(func(a, _ api.Int) {
		s := zint.Text(a)
		digits := s
		if wideOf(a).sign() < 0 && s[0] == '-' {
			digits = s[1:]
		}
		if digits == "" || digits[0] == '0' && digits != "0" || wideText(s) != wideOf(a) {
			t.Errorf("Text(%v): %s", a, s)
		}
		for i := range len(digits) {
			if digits[i] < '0' || digits[i] > '9' {
				t.Errorf("Text(%v): %s", a, s)
			}
		}
	})
}

func TestP25Parse(t *testing.T) {
	for _, c := range []struct {
		s    string
		want api.Int
	}{
		{"0", over()}, {"7", over(7)}, {"-7", under(7)}, {"10", over(10)}, {"-10", under(10)}, {"4294967295", over(top)}, {"-4294967295", under(top)},
		{"4294967296", over(0, 1)}, {"-4294967296", under(0, 1)}, {"-18446744073709551616", under(0, 0, 1)}, {"-340282366920938463463374607431768211455", under(run(4, top)...)},
	} {
		if got, e := zint.Parse(c.s); !same(got, c.want) || e != api.OK {
			t.Errorf("Parse(%s): %v %v, want %v", c.s, got, e, c.want)
		}
	}
	// Texts of all lengths, on both sides of 0.
	s := ""
	for range 60 {
		s += string(rune('1' + len(s)%9))
		for _, s := range []string{s, "-" + s, s + "0", "-" + s + "00"} {
			n, e := zint.Parse(s)
			if e != api.OK {
				t.Errorf("Parse(%s): %v", s, e)
			}
			wantNumber(t, "Parse", n, wideText(s))
		}
	}
}

func TestP25NoNumber(t *testing.T) {
	for _, s := range []string{
		"", "+1", "+7", "+0", "-0", "00", "-00", "-01", "01", "007", "-", "+", "--", "--1", "-+1", "+-1", "- 1", " -1", "-1 ", "1-", "1-2", "-1-2", "-a", "a", "12a",
		" ", " 1", "1 ", "1\n", "1e3", "1.0", "-1.5", "0x10", "-0x1", "1_000", "1,000", "\x00", "-\x00", "\u22121", "\uff0d1", "\u0663", "-\u0663",
		"-123456789012345678901234567890x", "-000000000000000000000000000000", "-0123456789",
	} {
		if n, e := zint.Parse(s); !same(n, api.Int{}) || e != api.ErrForm {
			t.Errorf("Parse(%q): %v %v", s, n, e)
		}
	}
	for b := range 256 {
		digit := '0' <= b && b <= '9'
		s := string([]byte{byte(b)})
		for _, c := range []struct {
			s    string
			good bool
		}{{s, digit}, {"-" + s, digit && b != '0'}, {s + "5", digit && b != '0' || b == '-'}, {"-" + s + "5", digit && b != '0'}, {"5" + s, digit}, {"-12" + s + "34", digit}} {
			if _, e := zint.Parse(c.s); (e == api.OK) != c.good || !c.good && e != api.ErrForm {
				t.Errorf("Parse(%q): %v", c.s, e)
			}
		}
	}
}
