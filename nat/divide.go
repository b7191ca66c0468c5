package nat

import (
	"math/bits"

	"riddle/api"
)

// DivMod is the quotient, and what is left.
func DivMod(a, b []uint32) (q, r []uint32, e api.Errno) {
	a, b = bare(a), bare(b)
	switch {
	case len(b) == 0:
		return nil, nil, api.ErrZero
	case Cmp(a, b) < 0:
		return nil, fresh(a), api.OK
	case len(b) == 1:
		q = fresh(a)
		left := divideByLimb(q, b[0])
		return bare(q), Of(uint64(left)), api.OK
	}
	q, r = divideByMany(a, b)
	return q, r, api.OK
}

// Gcd is the greatest common divisor.
func Gcd(a, b []uint32) []uint32 {
	a, b = bare(a), bare(b)
	for len(b) > 0 {
		_, left, _ := DivMod(a, b)
		a, b = b, left
	}
	return fresh(a)
}

// Lcm is the least common multiple.
func Lcm(a, b []uint32) []uint32 {
	g := Gcd(a, b)
	if len(g) == 0 {
		return nil
	}
	q, _, _ := DivMod(a, g)
	return Mul(q, b)
}

// divideByLimb makes a list its quotient by d, and tells what is left.
func divideByLimb(a []uint32, d uint32) uint32 {
	left := uint64(0)
	for i := len(a) - 1; i >= 0; i-- {
		word := left<<limbBits | uint64(a[i])
		a[i] = uint32(word / uint64(d))
		left = word % uint64(d)
	}
	return uint32(left)
}

// divideByMany divides by hand, limb by limb. It wants a not less than b, and b of two limbs or more. Both are
// shifted until the divisor's highest bit is set: only then a guess from the highest limbs is hardly ever wrong.
func divideByMany(a, b []uint32) (q, r []uint32) {
	shift := limbBits - bits.Len32(b[len(b)-1])
	rest := shiftUp(a, shift)
	divisor := bare(shiftUp(b, shift))
	n := len(a) - len(b) + 1
	q = make([]uint32, n)
	for i := range n {
		place := n - 1 - i
		window := rest[place : place+len(divisor)+1]
		digit := guess(window, divisor)
		if takeAway(window, divisor, digit) {
			putBack(window, divisor)
			digit--
		}
		q[place] = uint32(digit)
	}
	shiftDown(rest, shift)
	return bare(q), bare(rest)
}

// guess is the quotient's limb of a window and a divisor, or 1 more than it. The window is one limb longer and less
// than 2^32 times the divisor.
func guess(window, divisor []uint32) uint64 {
	n := len(divisor)
	first, second := uint64(divisor[n-1]), uint64(divisor[n-2])
	high := uint64(window[n])<<limbBits | uint64(window[n-1])
	digit, left := high/first, high%first
narrow:
	for digit >= base || digit*second > left<<limbBits|uint64(window[n-2]) {
		digit--
		left += first
		// From here on the second limb can't say any more that the digit is too great.
		if left >= base {
			break narrow
		}
	}
	return digit
}

// takeAway takes digit times the divisor from a window, and tells whether that went below 0.
func takeAway(window, divisor []uint32, digit uint64) bool {
	carry, borrow := uint64(0), uint64(0)
	for i := range len(window) {
		carry += digit * limb(divisor, i)
		word := lend(limb(window, i), carry&limbMask, borrow)
		window[i] = uint32(word & limbMask)
		borrow = owed(word)
		carry >>= limbBits
	}
	return borrow > 0
}

// putBack adds the divisor to a window that went below 0. The last carry makes up for what was borrowed.
func putBack(window, divisor []uint32) {
	carry := uint64(0)
	for i := range len(window) {
		carry += limb(window, i) + limb(divisor, i)
		window[i] = uint32(carry & limbMask)
		carry >>= limbBits
	}
}

// shiftUp is 2^shift times a number, in new memory and one limb longer. The shift is below 32.
func shiftUp(a []uint32, shift int) []uint32 {
	n := len(a)
	up := make([]uint32, n+1)
	carry := uint64(0)
	for i := range n {
		carry |= limb(a, i) << shift
		up[i] = uint32(carry & limbMask)
		carry >>= limbBits
	}
	up[n] = uint32(carry)
	return up
}

// shiftDown undoes shiftUp, in the same memory.
func shiftDown(a []uint32, shift int) {
	for i := range len(a) {
		word := limb(a, i+1)<<limbBits | limb(a, i)
		a[i] = uint32(word >> shift & limbMask)
	}
}
