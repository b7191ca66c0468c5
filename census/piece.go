package census

import (
	"iter"

	"riddle/api"
	"riddle/periods"
	"riddle/zint"
)

// A piece is numbers one behind the other without a cut among them: what is in the set comes again with each period.
type piece struct {
	first  api.Int
	period int
	// in are the places, from first on, of those numbers of the first period that are in the set.
	in []int
	// whole is how many whole periods there are, rest how many numbers behind these.
	whole api.Int
	rest  int
}

// pieces are the numbers from lo to hi, rising, cut where the set is.
func pieces(s *periods.Set, lo, hi api.Int) iter.Seq[piece] {
	return func(yield func(piece) bool) {
		if zint.Cmp(hi, lo) < 0 {
			return
		}
		first := lo
		for _, cut := range s.Cuts() {
			if zint.Cmp(cut, first) <= 0 {
				continue
			}
			if zint.Cmp(cut, hi) > 0 {
				break
			}
			if !yield(pieceOf(s, first, zint.Sub(cut, first))) {
				return
			}
			first = cut
		}
		yield(pieceOf(s, first, zint.Sub(zint.Add(hi, zint.Of(1)), first)))
	}
}

// pieceOf is the piece of so many numbers.
func pieceOf(s *periods.Set, first, length api.Int) piece {
	period := s.Period()
	whole, left, _ := zint.DivMod(length, zint.Of(int64(period)))
	rest, _ := zint.Int64(left)
	return piece{first: first, period: period, in: places(s, first, atMost(length, period)), whole: whole, rest: int(rest)}
}

// places are those, from x on, of the numbers that are in the set among so many.
func places(s *periods.Set, x api.Int, count int) []int {
	var in []int
	on := by(1)
	for place := range count {
		if s.Has(x) {
			in = append(in, place)
		}
		x = on(x)
	}
	return in
}

// atRest is how many of the places lie ahead of the end of what is left behind the whole periods.
func (p piece) atRest() int {
	count := 0
	for _, place := range p.in {
		if place < p.rest {
			count++
		}
	}
	return count
}

// count is how many are in the set.
func (p piece) count() api.Int {
	return zint.Add(zint.Mul(p.whole, zint.Of(int64(len(p.in)))), zint.Of(int64(p.atRest())))
}

// members are those that are in the set; they are asked for where they are few.
func (p piece) members() []api.Int {
	if len(p.in) == 0 {
		// There may be periods without end of which none is.
		return nil
	}
	var list []api.Int
	whole, _ := zint.Int64(p.whole)
	start, on := p.first, by(int64(p.period))
	for range whole {
		list = append(list, from(start, p.in)...)
		start = on(start)
	}
	return append(list, from(start, p.in[:p.atRest()])...)
}

// from are the numbers at those places, from a number on.
func from(start api.Int, places []int) []api.Int {
	var list []api.Int
	for _, place := range places {
		list = append(list, zint.Add(start, zint.Of(int64(place))))
	}
	return list
}
