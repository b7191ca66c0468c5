package nat

import (
	"strconv"
	"strings"

	"riddle/api"
)

// Texts are made and read by pieces of as many digits as a limb has room for: that is nine times fewer divisions.
const (
	pieceDigits = 9
	pieceBase   = 1_000_000_000
)

// Text is its decimal text.
func Text(a []uint32) string {
	pieces := cut(a)
	last := len(pieces) - 1
	var text strings.Builder
	text.WriteString(digits(pieces[last]))
	for i := last - 1; i >= 0; i-- {
		piece := digits(pieces[i])
		text.WriteString(strings.Repeat("0", pieceDigits-len(piece)))
		text.WriteString(piece)
	}
	return text.String()
}

// Parse is the number of a decimal text.
func Parse(s string) ([]uint32, api.Errno) {
	if !isText(s) {
		return nil, api.ErrForm
	}
	var n []uint32
	for from := 0; from < len(s); {
		// The first piece has what is over, so that all others are whole.
		to := from + (len(s)-from-1)%pieceDigits + 1
		over := timesPlus(n, pieceBase, value(s[from:to]))
		n = bare(append(n, over))
		from = to
	}
	return n, api.OK
}

// cut is a number by pieces, the least one first; of 0 it is one piece.
func cut(a []uint32) []uint32 {
	left := fresh(a)
	pieces := []uint32{divideByLimb(left, pieceBase)}
	for left = bare(left); len(left) > 0; left = bare(left) {
		pieces = append(pieces, divideByLimb(left, pieceBase))
	}
	return pieces
}

// digits is a piece without noughts ahead.
func digits(piece uint32) string {
	return strconv.FormatUint(uint64(piece), 10)
}

// isText tells whether some number has this text.
func isText(s string) bool {
	if s == "" || len(s) > 1 && s[0] == '0' {
		return false
	}
	for i := range len(s) {
		if s[i] < '0' || s[i] > '9' {
			return false
		}
	}
	return true
}

// value is the number of a piece's digits.
func value(piece string) uint32 {
	n := uint32(0)
	for i := range len(piece) {
		n = n*10 + uint32(piece[i]-'0')
	}
	return n
}

// timesPlus makes a list its product by factor and plus more, and tells the limb that goes behind it.
func timesPlus(a []uint32, factor, plus uint32) uint32 {
	carry := uint64(plus)
	for i := range len(a) {
		carry += limb(a, i) * uint64(factor)
		a[i] = uint32(carry & limbMask)
		carry >>= limbBits
	}
	return uint32(carry)
}
