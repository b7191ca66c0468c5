package zint

import (
	"riddle/api"
	"riddle/nat"
)

// Neg is the opposite.
func Neg(a api.Int) api.Int {
	return stand(!a.Neg, bare(a.Mag))
}

// Abs is the magnitude.
func Abs(a api.Int) api.Int {
	return stand(false, bare(a.Mag))
}

// Add is the sum.
func Add(a, b api.Int) api.Int {
	if a.Neg == b.Neg {
		return stand(a.Neg, nat.Add(a.Mag, b.Mag))
	}
	if nat.Cmp(a.Mag, b.Mag) < 0 {
		a, b = b, a
	}
	// The greater magnitude stands first, so that nothing can be refused.
	difference, _ := nat.Sub(a.Mag, b.Mag)
	return stand(a.Neg, difference)
}

// Sub is the difference.
func Sub(a, b api.Int) api.Int {
	b.Neg = !b.Neg
	return Add(a, b)
}

// Mul is the product.
func Mul(a, b api.Int) api.Int {
	return stand(a.Neg != b.Neg, nat.Mul(a.Mag, b.Mag))
}

// DivMod is the quotient, cut downwards, and what is left.
func DivMod(a, b api.Int) (q, r api.Int, e api.Errno) {
	quotient, rest, e := nat.DivMod(a.Mag, b.Mag)
	if e != api.OK {
		return api.Int{}, api.Int{}, api.ErrZero
	}
	if a.Neg != b.Neg && len(rest) > 0 {
		// The magnitudes' quotient is cut towards 0, which is upwards here: one more is taken, and what is left over is made up for.
		quotient = nat.Add(quotient, nat.Of(1))
		rest, _ = nat.Sub(b.Mag, rest)
	}
	return stand(a.Neg != b.Neg, quotient), stand(b.Neg, rest), api.OK
}

// Gcd is the greatest common divisor.
func Gcd(l ...api.Int) api.Int {
	return folded(nat.Of(0), nat.Gcd)(l...)
}

// Lcm is the least common multiple.
func Lcm(l ...api.Int) api.Int {
	return folded(nat.Of(1), nat.Lcm)(l...)
}

// folded is the call that takes the magnitudes of a list together, one by one, beginning with what there is of none.
func folded(none []uint32, join func(a, b []uint32) []uint32) func(l ...api.Int) api.Int {
	return func(l ...api.Int) api.Int {
		total := none
		for _, a := range l {
			total = join(total, a.Mag)
		}
		return stand(false, total)
	}
}
