package periods

import (
	"slices"

	"riddle/api"
	"riddle/zint"
)

// A stretch is the numbers from a cut of one of two sets on, up to the next one of either: each set has one row there.
type stretch struct {
	// from is the cut; the first stretch has none, and goes down for ever.
	from api.Int
	// first and second are the places of the two rows.
	first, second int
}

// stretches are those of the cuts of two sets, by rising numbers.
func stretches(a, b []api.Int) []stretch {
	all := make([]stretch, 1, 1+len(a)+len(b))
	at := all[0]
	for at.first < len(a) || at.second < len(b) {
		order := orderNext(a[at.first:], b[at.second:])
		if order >= 0 {
			at.from = b[at.second]
			at.second++
		}
		if order <= 0 {
			at.from = a[at.first]
			at.first++
		}
		all = append(all, at)
	}
	return all
}

// orderNext is -1, 0, 1, as the next cut stands in the first list, in both, in the second one.
func orderNext(a, b []api.Int) int {
	switch {
	case len(a) == 0:
		return 1
	case len(b) == 0:
		return -1
	}
	return zint.Cmp(a[0], b[0])
}

// joined is the set whose rows are those of two sets, taken together.
func joined(s, o *Set, take func(into, a, b row)) (*Set, api.Errno) {
	if s == nil || o == nil {
		return nil, api.ErrArg
	}
	period, e := periodOf(zint.Lcm(zint.Of(int64(s.period)), zint.Of(int64(o.period))))
	if e != api.OK {
		return nil, e
	}
	first, second := s.rowsBy(period), o.rowsBy(period)
	made, taken := &Set{period: period}, newRow(period)
	for _, at := range stretches(s.cuts, o.cuts) {
		take(taken, first[at.first], second[at.second])
		made.lay(at.from, taken)
	}
	return made, api.OK
}

// rowsBy are a set's rows by a multiple of its period, to be read alone.
func (s *Set) rowsBy(multiple int) []row {
	if multiple == s.period {
		return s.rows
	}
	var rows []row
	for _, r := range s.rows {
		rows = append(rows, r.by(s.period, multiple))
	}
	return rows
}

// lay puts a copy of a row behind all others, from a cut on, unless the row just below is the same. The first row has no cut.
func (s *Set) lay(cut api.Int, r row) {
	if last := len(s.rows) - 1; last >= 0 {
		if slices.Equal(r, s.rows[last]) {
			return
		}
		s.cuts = append(s.cuts, cut)
	}
	s.rows = append(s.rows, r.copied())
}

// agree tells whether two sets have the same numbers. In a stretch it is enough to look at as many numbers, one behind the
// other, as both periods are together: rows that agree on so many agree on all (the theorem of Fine and Wilf). The least
// common multiple of the periods may be far greater.
func agree(s, o *Set) bool {
	enough := s.period + o.period
	all := stretches(s.cuts, o.cuts)
	last := len(all) - 1
	// The first stretch is looked at just below the first cut, or, if there is none, anywhere.
	all[0].from = zint.Sub(all[min(1, last)].from, zint.Of(int64(enough)))
	for i, at := range all {
		count := enough
		if i < last {
			count = atMost(zint.Sub(all[i+1].from, at.from), enough)
		}
		if !agreeAt(s, o, at, count) {
			return false
		}
	}
	return true
}

// agreeAt tells whether two sets have the same ones of so many numbers, from the beginning of a stretch on.
func agreeAt(s, o *Set, at stretch, count int) bool {
	first, second := s.rows[at.first], o.rows[at.second]
	left, right := remainderOf(at.from, s.period), remainderOf(at.from, o.period)
	for range count {
		if first.has(left) != second.has(right) {
			return false
		}
		left, right = (left+1)%s.period, (right+1)%o.period
	}
	return true
}
