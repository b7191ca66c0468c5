package periods

import (
	"riddle/api"
	"riddle/zint"
)

// periodOf is a number above 0 as a period, if it may be one.
func periodOf(n api.Int) (int, api.Errno) {
	period, fits := zint.Int64(n)
	if !fits || period > api.MaxPeriod {
		return 0, api.ErrPeriod
	}
	return int(period), api.OK
}

// remainderOf is what a number leaves by a period, 0 to period - 1.
func remainderOf(x api.Int, period int) int {
	_, r, _ := zint.DivMod(x, zint.Of(int64(period)))
	left, _ := zint.Int64(r)
	return int(left)
}

// atMost is the lesser one of a number and a bound.
func atMost(n api.Int, bound int) int {
	if k, fits := zint.Int64(n); fits && k < int64(bound) {
		return int(k)
	}
	return bound
}
