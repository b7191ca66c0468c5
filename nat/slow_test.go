package nat_test

import (
	"strings"
	"testing"
)

// The numbers below are reckoned a second time on decimal digits, as by hand, so that no check of a call of the
// package leans on another one of it. Such a number is its text, without a nought ahead.

const top = 1<<32 - 1

func limbs(l ...uint32) []uint32 { return l }

// run is a list of n limbs, all the same.
func run(n int, limb uint32) []uint32 {
	l := make([]uint32, n)
	for i := range l {
		l[i] = limb
	}
	return l
}

func sameLimbs(a, b []uint32) bool {
	if len(a) != len(b) {
		return false
	}
	for i := range a {
		if a[i] != b[i] {
			return false
		}
	}
	return true
}

func slowTrim(s string) string {
	s = strings.TrimLeft(s, "0")
	if s == "" {
		return "0"
	}
	return s
}

// slowDigit is a digit of a text, counted from its end.
func slowDigit(s string, i int) int {
	if i >= len(s) {
		return 0
	}
	return int(s[len(s)-1-i] - '0')
}

func slowAdd(a, b string) string {
	n := max(len(a), len(b)) + 1
	sum := make([]byte, n)
	carry := 0
	for i := range n {
		carry += slowDigit(a, i) + slowDigit(b, i)
		sum[n-1-i] = byte('0' + carry%10)
		carry /= 10
	}
	return slowTrim(string(sum))
}

func slowMul(a, b string) string {
	columns := make([]int, len(a)+len(b))
	for i := range len(a) {
		for j := range len(b) {
			columns[i+j] += slowDigit(a, i) * slowDigit(b, j)
		}
	}
	product := make([]byte, len(columns))
	carry := 0
	for i, c := range columns {
		carry += c
		product[len(columns)-1-i] = byte('0' + carry%10)
		carry /= 10
	}
	return slowTrim(string(product))
}

func slowCmp(a, b string) int {
	if len(a) != len(b) {
		if len(a) < len(b) {
			return -1
		}
		return 1
	}
	return strings.Compare(a, b)
}

func slowSmall(n uint32) string {
	s := ""
	for ; n > 0; n /= 10 {
		s = string(rune('0'+n%10)) + s
	}
	return slowTrim(s)
}

// slow is the number of a list.
func slow(a []uint32) string {
	n := "0"
	for i := len(a) - 1; i >= 0; i-- {
		n = slowAdd(slowMul(n, "4294967296"), slowSmall(a[i]))
	}
	return n
}

// wantBare fails unless a list is bare and is the number of the text.
func wantBare(t *testing.T, what string, got []uint32, want string) {
	t.Helper()
	if len(got) > 0 && got[len(got)-1] == 0 {
		t.Errorf("%s: %v is not bare", what, got)
	}
	if s := slow(got); s != want {
		t.Errorf("%s: %s, want %s", what, s, want)
	}
}

// edges are the lists that the document names, and their neighbours.
func edges() [][]uint32 {
	return [][]uint32{
		nil, {}, {0}, {0, 0, 0},
		{1}, {1, 0}, {2}, {3, 0, 0}, {5}, {6}, {9}, {10}, {12, 0}, {18},
		{999999999}, {1000000000}, {1000000001},
		{1<<31 - 1}, {1 << 31}, {1<<31 + 1}, {top - 1}, {top}, {top, 0, 0},
		{0, 1}, {0, 1, 0}, {1, 1}, {7, 1}, {top, 1}, {0, 2}, {1, 1 << 31}, {0, 1 << 31}, {top, top - 1}, {0, top}, {top, top}, {top, top, 0},
		{0, 0, 1}, {1, 0, 1}, {0, 0, 1 << 31}, {3, 0, 1 << 31}, {1, 0, 1 << 29}, {0, top - 1, 1 << 31}, {top, 0, 1 << 31}, {0, 0, 1 << 31, 1<<31 - 1},
		{1000000000, 1000000000, 1000000000}, {2808348672, 232830643}, {2808348671, 232830643},
		run(4, top), run(9, top), append(run(9, 0), 1), append(run(9, 0), 1, 0), append(limbs(1), append(run(7, 0), 1)...), run(20, 1<<31),
	}
}

// dice are numbers that look drawn, and are the same ones each time.
type dice struct{ state uint64 }

func (d *dice) next() uint32 {
	d.state = d.state*6364136223846793005 + 1442695040888963407
	return uint32(d.state >> 32)
}

// list has up to most limbs; many of them are at an end of what a limb can be.
func (d *dice) list(most int) []uint32 {
	l := make([]uint32, int(d.next()>>8)%(most+1))
	for i := range l {
		switch d.next() >> 8 % 6 {
		case 0:
			l[i] = 0
		case 1:
			l[i] = top
		case 2:
			l[i] = 1 << 31
		default:
			l[i] = d.next()
		}
	}
	return l
}

// pairs calls f with all pairs of edges, and with others.
func pairs(f func(a, b []uint32)) {
	all := edges()
	for _, a := range all {
		for _, b := range all {
			f(a, b)
		}
	}
	d := &dice{state: 7}
	for range 3000 {
		f(d.list(8), d.list(6))
	}
}

// triples calls f with all triples of some edges, and with others.
func triples(f func(a, b, c []uint32)) {
	some := [][]uint32{nil, {0, 0}, {1}, {6, 0}, {top}, {0, 1}, {1, 1 << 31}, {top, top}, run(5, top), append(run(4, 0), 1)}
	for _, a := range some {
		for _, b := range some {
			for _, c := range some {
				f(a, b, c)
			}
		}
	}
	d := &dice{state: 11}
	for range 2000 {
		f(d.list(5), d.list(5), d.list(5))
	}
}
