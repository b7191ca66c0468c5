package nat

import (
	"riddle/api"
)

// Add is the sum.
func Add(a, b []uint32) []uint32 {
	a, b = bare(a), bare(b)
	n := max(len(a), len(b))
	sum := make([]uint32, n+1)
	carry := uint64(0)
	for i := range n {
		carry += limb(a, i) + limb(b, i)
		sum[i] = uint32(carry & limbMask)
		carry >>= limbBits
	}
	sum[n] = uint32(carry)
	return bare(sum)
}

// Sub is the difference.
func Sub(a, b []uint32) ([]uint32, api.Errno) {
	a, b = bare(a), bare(b)
	if Cmp(a, b) < 0 {
		return nil, api.ErrNeg
	}
	n := len(a)
	difference := make([]uint32, n)
	borrow := uint64(0)
	for i := range n {
		word := lend(limb(a, i), limb(b, i), borrow)
		difference[i] = uint32(word & limbMask)
		borrow = owed(word)
	}
	return bare(difference), api.OK
}

// Mul is the product.
func Mul(a, b []uint32) []uint32 {
	a, b = bare(a), bare(b)
	n, m := len(a), len(b)
	product := make([]uint32, n+m)
	for i := range n {
		carry := uint64(0)
		for j := range m {
			// At most (2^32 - 1)^2 + 2 (2^32 - 1), which is just 2^64 - 1: the word doesn't wrap.
			carry += limb(a, i)*limb(b, j) + limb(product, i+j)
			product[i+j] = uint32(carry & limbMask)
			carry >>= limbBits
		}
		product[i+m] = uint32(carry)
	}
	return bare(product)
}

// lend takes a limb and a borrow from a limb to which the next one has lent, so that no word wraps below 0.
func lend(from, take, borrow uint64) uint64 {
	return base + from - take - borrow
}

// owed is 1 if what was lent has been used, else 0.
func owed(word uint64) uint64 {
	return 1 - word>>limbBits
}
