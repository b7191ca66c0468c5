package nat_test

import (
	"strings"
	"testing"

	"riddle/api"
	"riddle/nat"
)

// wantSame fails unless both lists are the same, bare ones that they should be.
func wantSame(t *testing.T, law string, a, b []uint32) {
	t.Helper()
	if !sameLimbs(a, b) {
		t.Errorf("%s: %v, %v", law, a, b)
	}
}

func TestP15Sums(t *testing.T) {
	pairs(func(a, b []uint32) {
		wantSame(t, "a + b, b + a", nat.Add(a, b), nat.Add(b, a))
		wantSame(t, "a b, b a", nat.Mul(a, b), nat.Mul(b, a))
		back, e := nat.Sub(nat.Add(a, b), b)
		if e != api.OK {
			t.Errorf("%v + %v less the second one: %v", a, b, e)
		}
		wantSame(t, "a + b - b, a", back, nat.Add(a, nil))
	})
	triples(func(a, b, c []uint32) {
		wantSame(t, "(a + b) + c", nat.Add(nat.Add(a, b), c), nat.Add(a, nat.Add(b, c)))
		wantSame(t, "(a b) c", nat.Mul(nat.Mul(a, b), c), nat.Mul(a, nat.Mul(b, c)))
		wantSame(t, "a (b + c)", nat.Mul(a, nat.Add(b, c)), nat.Add(nat.Mul(a, b), nat.Mul(a, c)))
	})
}

func TestP15Order(t *testing.T) {
	triples(func(a, b, c []uint32) {
		order := nat.Cmp(a, b)
		if got := nat.Cmp(nat.Add(a, c), nat.Add(b, c)); got != order {
			t.Errorf("a + c, b + c of %v %v %v: %d, want %d", a, b, c, got, order)
		}
		if slow(c) == "0" {
			order = 0
		}
		if got := nat.Cmp(nat.Mul(a, c), nat.Mul(b, c)); got != order {
			t.Errorf("a c, b c of %v %v %v: %d, want %d", a, b, c, got, order)
		}
	})
}

func TestP16Divisors(t *testing.T) {
	pairs(func(a, b []uint32) {
		wantSame(t, "Gcd Lcm, a b", nat.Mul(nat.Gcd(a, b), nat.Lcm(a, b)), nat.Mul(a, b))
		wantSame(t, "Gcd turned round", nat.Gcd(a, b), nat.Gcd(b, a))
		wantSame(t, "Lcm turned round", nat.Lcm(a, b), nat.Lcm(b, a))
	})
	triples(func(a, b, c []uint32) {
		wantSame(t, "Gcd(a c, b c)", nat.Gcd(nat.Mul(a, c), nat.Mul(b, c)), nat.Mul(nat.Gcd(a, b), c))
		wantSame(t, "Gcd(a + b c, b)", nat.Gcd(nat.Add(a, nat.Mul(b, c)), b), nat.Gcd(a, b))
	})
}

func TestP17Back(t *testing.T) {
	pairs(func(a, _ []uint32) {
		n, e := nat.Parse(nat.Text(a))
		if e != api.OK {
			t.Errorf("Parse of Text of %v: %v", a, e)
		}
		wantBare(t, "Parse of Text", n, slow(a))
	})
	// Ten times a number and a digit more has that digit behind the text, through all ends of pieces and limbs.
	n, text := nat.Of(0), ""
	for i := range 200 {
		digit := uint32((i*7 + 1) % 10)
		n = nat.Add(nat.Mul(n, limbs(10)), limbs(digit))
		text += slowSmall(digit)
		if nat.Text(n) != text {
			t.Fatalf("%s, want %s", nat.Text(n), text)
		}
		if back, e := nat.Parse(text); !sameLimbs(back, n) || e != api.OK {
			t.Fatalf("Parse(%s): %v %v, want %v", text, back, e, n)
		}
	}
}

func TestP17Order(t *testing.T) {
	wants := func(a, b []uint32) {
		s, u := nat.Text(a), nat.Text(b)
		want := len(s) - len(u)
		if want == 0 {
			want = strings.Compare(s, u)
		}
		want = max(-1, min(1, want))
		if got := nat.Cmp(a, b); got != want {
			t.Errorf("%s and %s: %d, want %d", s, u, got, want)
		}
	}
	pairs(func(a, b []uint32) {
		wants(a, b)
		wants(a, nat.Add(a, b))
		wants(nat.Add(a, limbs(1)), a)
	})
	ten := limbs(1)
	for range 60 {
		ten = nat.Mul(ten, limbs(10))
		nine, _ := nat.Sub(ten, limbs(1))
		wants(nine, ten)
		wants(ten, nine)
	}
}
