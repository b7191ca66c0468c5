package census_test

import (
	"slices"
	"strconv"
	"testing"

	"riddle/api"
	"riddle/census"
	"riddle/periods"
	"riddle/zint"
)

// A model is a set of which all rows are known: what it has is reckoned remainder by remainder, by quotients, and no number
// is asked for.
type model struct {
	period int
	cuts   []api.Int
	rows   []row
}

// A row is a few remainders, or all others.
type row struct {
	few    []int
	others bool
}

// set is the model as a set.
func (m model) set() *periods.Set {
	s := by(m.period, none())
	for i, r := range m.rows {
		members := none()
		for _, k := range r.few {
			members = join(members, class(m.period, k))
		}
		if r.others {
			members = members.Rest()
		}
		if i > 0 {
			members = meet(members, periods.Above(plus(m.cuts[i-1], -1)))
		}
		if i < len(m.cuts) {
			members = meet(members, periods.Above(plus(m.cuts[i], -1)).Rest())
		}
		s = join(s, members)
	}
	return s
}

// quotient is that of a number by the period, cut downwards.
func (m model) quotient(x api.Int) api.Int {
	q, _, _ := zint.DivMod(x, n(m.period))
	return q
}

func (m model) left(x api.Int) int {
	_, r, _ := zint.DivMod(x, n(m.period))
	k, _ := zint.Int64(r)
	return int(k)
}

// within is the part of lo to hi that lies in a row, if there is one.
func (m model) within(i int, lo, hi api.Int) (first, final api.Int, is bool) {
	if i > 0 && zint.Cmp(lo, m.cuts[i-1]) < 0 {
		lo = m.cuts[i-1]
	}
	if i < len(m.cuts) && zint.Cmp(hi, m.cuts[i]) >= 0 {
		hi = plus(m.cuts[i], -1)
	}
	return lo, hi, zint.Cmp(lo, hi) <= 0
}

// count is the sum over rows and remainders.
func (m model) count(lo, hi api.Int) api.Int {
	total := n(0)
	for i, r := range m.rows {
		first, final, is := m.within(i, lo, hi)
		if !is {
			continue
		}
		few := n(0)
		for _, k := range r.few {
			few = zint.Add(few, zint.Sub(m.quotient(plus(final, -k)), m.quotient(plus(first, -k-1))))
		}
		if r.others {
			few = zint.Sub(plus(zint.Sub(final, first), 1), few)
		}
		total = zint.Add(total, few)
	}
	return total
}

// up is the least one of a row that is first or above, whatever the cuts are.
func (m model) up(r row, first api.Int) found {
	if r.isEmpty(m.period) {
		return no()
	}
	if r.others {
		for slices.Contains(r.few, m.left(first)) {
			first = plus(first, 1)
		}
		return yes(first)
	}
	best := no()
	for _, k := range r.few {
		x := plus(first, m.left(plus(opposite(first), k)))
		if !best.is || zint.Cmp(x, best.k) < 0 {
			best = yes(x)
		}
	}
	return best
}

// turned is the model of the opposite numbers.
func (m model) turned() model {
	o := model{period: m.period}
	for _, cut := range slices.Backward(m.cuts) {
		o.cuts = append(o.cuts, plus(opposite(cut), 1))
	}
	for _, r := range slices.Backward(m.rows) {
		t := row{others: r.others}
		for _, k := range r.few {
			t.few = append(t.few, (m.period-k)%m.period)
		}
		o.rows = append(o.rows, t)
	}
	return o
}

// next goes through the rows, the least one first.
func (m model) next(x api.Int) found {
	for i, r := range m.rows {
		first := x
		if i > 0 && zint.Cmp(x, m.cuts[i-1]) < 0 {
			first = m.cuts[i-1]
		}
		f := m.up(r, first)
		if f.is && (i == len(m.cuts) || zint.Cmp(f.k, m.cuts[i]) < 0) {
			return f
		}
	}
	return no()
}

// last is the next one of the opposite numbers, turned back.
func (m model) last(x api.Int) found {
	f := m.turned().next(opposite(x))
	return found{opposite(f.k), f.is}
}

func (r row) isEmpty(period int) bool {
	if r.others {
		return len(r.few) == period
	}
	return len(r.few) == 0
}

// finite is the sum between the first cut and the last one.
func (m model) finite() found {
	if !m.rows[0].isEmpty(m.period) || !m.rows[len(m.rows)-1].isEmpty(m.period) {
		return no()
	}
	if len(m.cuts) == 0 {
		return yes(n(0))
	}
	return yes(m.count(m.cuts[0], m.cuts[len(m.cuts)-1]))
}

func (m model) least() found {
	if !m.rows[0].isEmpty(m.period) || len(m.cuts) == 0 {
		return no()
	}
	return m.next(m.cuts[0])
}

// A dice draws numbers, always the same ones.
type dice struct{ state uint64 }

// roll is one of 0 to n - 1.
func (d *dice) roll(n int) int {
	d.state = d.state*6364136223846793005 + 1442695040888963407
	return int((d.state >> 33) % uint64(n))
}

// number is a small one mostly, else one of at most so many limbs, on either side of 0.
func (d *dice) number(limbs int) api.Int {
	switch d.roll(5) {
	case 0, 1:
		return n(d.roll(61) - 30)
	case 2, 3:
		return n(d.roll(20001) - 10000)
	}
	k := zint.Add(wide(1+d.roll(limbs)), n(d.roll(9001)-4500))
	if d.roll(2) == 0 {
		return opposite(k)
	}
	return k
}

func (d *dice) period() int {
	if d.roll(4) == 0 {
		return 1 + d.roll(api.MaxPeriod)
	}
	return []int{1, 1, 2, 3, 5, 12, 31, 64, 65, 100, 1000, 4095, 4096}[d.roll(13)]
}

// row draws a few remainders; of a period of 1 or 2 they may be all.
func (d *dice) row(period int) row {
	r := row{others: d.roll(3) == 0}
	for range d.roll(4) {
		if k := d.roll(period); !slices.Contains(r.few, k) {
			r.few = append(r.few, k)
		}
	}
	return r
}

// model draws a set; one in three has numbers between its cuts alone.
func (d *dice) model() model {
	m := model{period: d.period()}
	for range d.roll(9) {
		cut := d.number(5)
		if d.roll(2) == 0 && len(m.cuts) > 0 {
			// Next to another one.
			cut = plus(m.cuts[d.roll(len(m.cuts))], 1+d.roll(2*min(m.period, 30)))
		}
		m.cuts = append(m.cuts, cut)
	}
	slices.SortFunc(m.cuts, zint.Cmp)
	m.cuts = slices.CompactFunc(m.cuts, func(a, b api.Int) bool { return zint.Cmp(a, b) == 0 })
	for range len(m.cuts) + 1 {
		m.rows = append(m.rows, d.row(m.period))
	}
	if end := d.roll(9); end < 6 {
		m.rows[0] = row{}
		if end < 4 {
			m.rows[len(m.cuts)] = row{}
		}
	}
	return m
}

// place draws a number: next to a cut, a period away from it, or anywhere.
func (d *dice) place(m model) api.Int {
	if len(m.cuts) == 0 || d.roll(3) == 0 {
		return d.number(6)
	}
	cut := m.cuts[d.roll(len(m.cuts))]
	switch d.roll(4) {
	case 0:
		return plus(cut, d.roll(5)-2)
	case 1:
		return plus(cut, d.roll(2*m.period+1)-m.period)
	case 2:
		return plus(cut, m.period*(d.roll(7)-3)+d.roll(3)-1)
	}
	return zint.Add(cut, d.number(2))
}

// Counts, neighbours, lists and ends are those of the model.
func TestDrawnSets(t *testing.T) {
	d := &dice{state: 191}
	var seen struct{ counted, huge, listed, long, up, down, none, finite, least int }
	for i := range drawn {
		m := d.model()
		s := m.set()
		what := "set " + strconv.Itoa(i) + ", period " + strconv.Itoa(m.period) + ", cuts " + tellInts(m.cuts)
		tells(t, what+": Finite", finite(s), m.finite())
		tells(t, what+": Least", least(s), m.least())
		for range 4 {
			lo, hi := d.place(m), d.place(m)
			if d.roll(6) > 0 && zint.Cmp(hi, lo) < 0 {
				lo, hi = hi, lo
			}
			want := m.count(lo, hi)
			counts(t, what, s, lo, hi, want)
			tells(t, what+": Next of "+tellInt(lo), next(s, lo), m.next(lo))
			tells(t, what+": Last of "+tellInt(hi), last(s, hi), m.last(hi))
			list, e := census.List(s, lo, hi)
			if isLong := zint.Cmp(want, n(api.MaxList)) > 0; isLong != (e == api.ErrLong) || !isLong && (e != api.OK || tellInt(n(len(list))) != tellInt(want)) {
				t.Errorf("%s: List from %s to %s has %d, %v, want %s", what, tellInt(lo), tellInt(hi), len(list), e, tellInt(want))
			}
			seen.counted += bit(zint.Sign(want) > 0)
			seen.huge += bit(zint.Limbs(want) > 1)
			seen.listed += bit(len(list) > 1)
			seen.long += bit(e == api.ErrLong)
			seen.up += bit(m.next(lo).is)
			seen.down += bit(m.last(hi).is)
			seen.none += bit(!m.next(lo).is)
		}
		seen.finite += bit(m.finite().is && zint.Sign(m.finite().k) > 0)
		seen.least += bit(m.least().is)
		if t.Failed() {
			t.Fatal(short(tellSet(s)))
		}
	}
	// What was drawn has all that the test is for.
	if min(seen.counted, seen.huge, seen.listed, seen.long, seen.up, seen.down, seen.none, seen.finite, seen.least) < drawn/10 {
		t.Errorf("%+v", seen)
	}
}

// The models are looked at themselves, where the answer is plain.
func TestModels(t *testing.T) {
	m := model{10, numbers(3, 30), []row{{[]int{4}, false}, {nil, false}, {[]int{0, 1}, true}}}
	s := m.set()
	for k := -100; k < 100; k++ {
		left := (k%10 + 10) % 10
		want := k < 3 && left == 4 || k >= 30 && left > 1
		if s.Has(n(k)) != want {
			t.Fatalf("of %d Has says %v", k, s.Has(n(k)))
		}
		if tellInt(m.count(n(k), n(k))) != tellInt(n(bit(want))) || m.next(n(k)).is != true || (tellInt(m.next(n(k)).k) == tellInt(n(k))) != want || (tellInt(m.last(n(k)).k) == tellInt(n(k))) != want {
			t.Fatalf("of %d: %s, %v, %v", k, tellInt(m.count(n(k), n(k))), m.next(n(k)), m.last(n(k)))
		}
	}
	if m.finite().is || m.least().is || tellInt(m.next(n(-5)).k) != tellInt(n(32)) || tellInt(m.last(n(31)).k) != tellInt(n(-6)) || tellInt(m.count(n(-10), n(39))) != tellInt(n(9)) {
		t.Errorf("%v, %v, %v, %v, %s", m.finite(), m.least(), m.next(n(-5)), m.last(n(31)), tellInt(m.count(n(-10), n(39))))
	}
	m.rows[0], m.rows[2] = row{[]int{}, false}, row{}
	if !m.finite().is || m.least().is || tellInt(m.finite().k) != "" {
		t.Errorf("%v, %v", m.finite(), m.least())
	}
	m.rows[1] = row{[]int{7}, false}
	if tellInt(m.finite().k) != tellInt(n(3)) || tellInt(m.least().k) != tellInt(n(7)) {
		t.Errorf("%v, %v", m.finite(), m.least())
	}
}
