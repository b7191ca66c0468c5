package zint_test

import (
	"testing"

	"riddle/api"
	"riddle/zint"
)

// wantSame fails unless both numbers are the same and stand as they should.
func wantSame(t *testing.T, law string, a, b api.Int) {
	t.Helper()
	if !same(a, b) || !stands(a) {
		t.Errorf("%s: %v, %v", law, a, b)
	}
}

func TestP26SumsAndProducts(t *testing.T) {
	triples(func(a, b, c api.Int) {
		wantSame(t, "a + b, b + a", zint.Add(a, b), zint.Add(b, a))
		wantSame(t, "a b, b a", zint.Mul(a, b), zint.Mul(b, a))
		wantSame(t, "(a + b) + c", zint.Add(zint.Add(a, b), c), zint.Add(a, zint.Add(b, c)))
		wantSame(t, "(a b) c", zint.Mul(zint.Mul(a, b), c), zint.Mul(a, zint.Mul(b, c)))
		wantSame(t, "a (b + c)", zint.Mul(a, zint.Add(b, c)), zint.Add(zint.Mul(a, b), zint.Mul(a, c)))
		wantSame(t, "a - b, a + -b", zint.Sub(a, b), zint.Add(a, zint.Neg(b)))
	})
}

func TestP26Division(t *testing.T) {
	pairs(func(a, b api.Int) {
		q, r, e := zint.DivMod(a, b)
		if e != api.OK {
			return
		}
		wantSame(t, "q b + r, a", zint.Add(zint.Mul(q, b), r), zint.Norm(a))
		next, left, _ := zint.DivMod(zint.Add(a, b), b)
		wantSame(t, "the quotient of a + b", next, zint.Add(q, over(1)))
		wantSame(t, "the rest of a + b", left, r)
	})
}

// divides tells whether d divides a; 0 divides 0 alone.
func divides(d, a api.Int) bool {
	_, r, e := zint.DivMod(a, d)
	if e != api.OK {
		return zint.Sign(a) == 0
	}
	return zint.Sign(r) == 0
}

func TestP26Divisors(t *testing.T) {
	pairs(func(a, b api.Int) {
		gcd, lcm := zint.Gcd(a, b), zint.Lcm(a, b)
		wantSame(t, "Gcd Lcm, |a b|", zint.Mul(gcd, lcm), zint.Abs(zint.Mul(a, b)))
		wantSame(t, "Gcd turned round", gcd, zint.Gcd(b, a))
		wantSame(t, "Lcm turned round", lcm, zint.Lcm(b, a))
		wantSame(t, "Gcd without signs", gcd, zint.Gcd(zint.Neg(a), zint.Abs(b)))
		wantSame(t, "Lcm without signs", lcm, zint.Lcm(zint.Neg(a), zint.Abs(b)))
		if !divides(gcd, a) || !divides(gcd, b) || !divides(a, lcm) || !divides(b, lcm) {
			t.Errorf("Gcd, Lcm of %v and %v: %v, %v", a, b, gcd, lcm)
		}
	})
	triples(func(a, b, c api.Int) {
		wantSame(t, "Gcd by groups", zint.Gcd(a, b, c), zint.Gcd(a, zint.Gcd(b, c)))
		wantSame(t, "Lcm by groups", zint.Lcm(a, b, c), zint.Lcm(a, zint.Lcm(b, c)))
		if gcd := zint.Gcd(zint.Mul(a, c), zint.Mul(b, c)); !divides(c, gcd) {
			t.Errorf("%v divides both products by it, and not their Gcd %v", c, gcd)
		}
	})
}

func TestP26Order(t *testing.T) {
	pairs(func(a, b api.Int) {
		order := zint.Cmp(a, b)
		if got := zint.Sign(zint.Sub(a, b)); got != order {
			t.Errorf("Cmp(%v, %v): %d, and the difference's sign %d", a, b, order, got)
		}
		if got := zint.Cmp(b, a); got != -order {
			t.Errorf("Cmp(%v, %v): %d, and turned round %d", a, b, order, got)
		}
	})
}

func TestP26Back(t *testing.T) {
	pairs(func(a, b api.Int) {
		for _, a := range []api.Int{a, b} {
			n, e := zint.Parse(zint.Text(a))
			if e != api.OK {
				t.Errorf("Parse of Text of %v: %v", a, e)
			}
			wantNumber(t, "Parse of Text", n, wideOf(a))
		}
	})
}
