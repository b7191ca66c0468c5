// Package nat is unsigned numbers of limbs.
//
// A number is a list of limbs of 32 bits, the least one first. Any list is taken, noughts at its end count for
// nothing; what is answered has none there and is new memory.
package nat

import (
	"math/bits"
)

const (
	limbBits = 32
	base     = 1 << limbBits
	limbMask = base - 1
)

// Of is a number.
func Of(n uint64) []uint32 {
	return bare([]uint32{uint32(n & limbMask), uint32(n >> limbBits)})
}

// Cmp is -1, 0, 1.
func Cmp(a, b []uint32) int {
	a, b = bare(a), bare(b)
	switch {
	case len(a) < len(b):
		return -1
	case len(a) > len(b):
		return 1
	}
	for i := len(a) - 1; i >= 0; i-- {
		switch {
		case a[i] < b[i]:
			return -1
		case a[i] > b[i]:
			return 1
		}
	}
	return 0
}

// Bits is how many bits it has.
func Bits(a []uint32) int {
	a = bare(a)
	if len(a) == 0 {
		return 0
	}
	last := len(a) - 1
	return last*limbBits + bits.Len32(a[last])
}

// bare leaves the noughts at a list's end out. It looks at the same memory, so that of an argument it must not be
// answered as it is.
func bare(a []uint32) []uint32 {
	n := len(a)
end:
	for n > 0 {
		switch a[n-1] {
		case 0:
			n--
		default:
			break end
		}
	}
	return a[:n]
}

// fresh is a bare copy: an argument's limbs may be changed and answered only so.
func fresh(a []uint32) []uint32 {
	return append([]uint32(nil), bare(a)...)
}

// limb is a limb as a word that has room for a product; above the end of a list its limbs are noughts.
func limb(a []uint32, i int) uint64 {
	if i < len(a) {
		return uint64(a[i])
	}
	return 0
}
