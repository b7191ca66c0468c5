package periods

const wordBits = 64

// A row is some of the remainders of a period, a bit for each: rows of a long period are taken together a word at a time.
type row []uint64

// newRow is the row without remainders.
func newRow(period int) row {
	return make(row, (period+wordBits-1)/wordBits)
}

func (r row) has(remainder int) bool {
	return r[remainder/wordBits]&bit(remainder) != 0
}

func (r row) add(remainder int) {
	r[remainder/wordBits] |= bit(remainder)
}

func bit(remainder int) uint64 {
	return 1 << (remainder % wordBits)
}

// both makes a row what two others have in common.
func (r row) both(a, b row) {
	for i := range r {
		r[i] = a[i] & b[i]
	}
}

// either makes a row what one of two others has.
func (r row) either(a, b row) {
	for i := range r {
		r[i] = a[i] | b[i]
	}
}

func (r row) copied() row {
	kept := make(row, len(r))
	copy(kept, r)
	return kept
}

// others are the remainders that are not in the row.
func (r row) others(period int) row {
	rest := newRow(period)
	for remainder := range period {
		if !r.has(remainder) {
			rest.add(remainder)
		}
	}
	return rest
}

// by is the row by a multiple of its period.
func (r row) by(period, multiple int) row {
	wide := newRow(multiple)
	for remainder := range multiple {
		if r.has(remainder % period) {
			wide.add(remainder)
		}
	}
	return wide
}
