package zint

import (
	"strings"

	"riddle/api"
	"riddle/nat"
)

const minus = "-"

// Text is its decimal text.
func Text(a api.Int) string {
	if Sign(a) < 0 {
		return minus + nat.Text(a.Mag)
	}
	return nat.Text(a.Mag)
}

// Parse is the number of a decimal text.
func Parse(s string) (api.Int, api.Errno) {
	digits, neg := strings.CutPrefix(s, minus)
	mag, e := nat.Parse(digits)
	if e != api.OK || neg && len(mag) == 0 {
		return api.Int{}, api.ErrForm
	}
	return stand(neg, mag), api.OK
}
