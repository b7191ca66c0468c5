package periods_test

import (
	"slices"
	"strconv"
	"testing"

	"riddle/api"
	"riddle/arena"
	"riddle/periods"
	"riddle/zint"
)

// A model is a set as the chapter has it, word by word: a period, cuts, and a row more, with a truth for each remainder.
type model struct {
	period int
	cuts   []api.Int
	rows   [][]bool
}

func slowNone() model { return model{1, nil, [][]bool{{false}}} }

func slowAbove(k api.Int) model {
	return model{1, bigs(plus(k, 1)), [][]bool{{false}, {true}}}
}

// slowRow are the remainders by a period of which something is so.
func slowRow(period int, is func(r int) bool) []bool {
	var row []bool
	for r := range period {
		row = append(row, is(r))
	}
	return row
}

// slowLeft is what a number leaves, 0 to period - 1, by its limbs.
func slowLeft(k api.Int, period int) int {
	left := 0
	for i := len(k.Mag) - 1; i >= 0; i-- {
		left = (left<<32 + int(k.Mag[i])) % period
	}
	if k.Neg {
		left = -left
	}
	return modulo(left, period)
}

func slowClass(d int, r api.Int) model {
	return model{d, nil, [][]bool{slowRow(d, func(k int) bool { return k == slowLeft(r, d) })}}
}

// place is that of a number's row.
func (m model) place(k api.Int) int {
	place := 0
	for _, cut := range m.cuts {
		if zint.Cmp(cut, k) <= 0 {
			place++
		}
	}
	return place
}

func (m model) has(k api.Int) bool { return m.rows[m.place(k)][slowLeft(k, m.period)] }

func (m model) rest() model {
	var rows [][]bool
	for _, row := range m.rows {
		rows = append(rows, slowRow(m.period, func(r int) bool { return !row[r] }))
	}
	return model{m.period, m.cuts, rows}
}

// joined takes two together; all cuts are kept first, and those at which the row is the same are left out behind that.
func (m model) joined(o model, take func(a, b bool) bool) (model, api.Errno) {
	period := max(m.period, o.period)
	for period%m.period != 0 || period%o.period != 0 {
		period++
	}
	if period > api.MaxPeriod {
		return model{}, api.ErrPeriod
	}
	row := func(i, j int) []bool {
		return slowRow(period, func(r int) bool { return take(m.rows[i][r%m.period], o.rows[j][r%o.period]) })
	}
	cuts := slices.Concat(m.cuts, o.cuts)
	slices.SortFunc(cuts, zint.Cmp)
	both := model{period, nil, [][]bool{row(0, 0)}}
	for _, cut := range cuts {
		next := row(m.place(cut), o.place(cut))
		if !slices.Equal(next, both.rows[len(both.rows)-1]) {
			both.cuts, both.rows = append(both.cuts, cut), append(both.rows, next)
		}
	}
	return both, api.OK
}

func (m model) meet(o model) (model, api.Errno) {
	return m.joined(o, func(a, b bool) bool { return a && b })
}

func (m model) join(o model) (model, api.Errno) {
	return m.joined(o, func(a, b bool) bool { return a || b })
}

// slowOf goes every way down, by calls within calls.
func slowOf(a *arena.Arena, id, v int) (model, api.Errno) {
	node := whole(a, id)
	c := n(0)
	for _, part := range node.T.Parts {
		if part.Var == v {
			c = part.C
		}
	}
	switch node.Kind {
	case api.False:
		return slowNone(), api.OK
	case api.True:
		return slowNone().rest(), api.OK
	case api.Less:
		// Of one variable: 1 or -1, times it.
		if c.Neg {
			return slowAbove(plus(node.T.K, -1)).rest(), api.OK
		}
		return slowAbove(zint.Neg(node.T.K)), api.OK
	case api.Div, api.Not:
		if zint.Cmp(node.D, n(api.MaxPeriod)) > 0 {
			return model{}, api.ErrPeriod
		}
		d := int(node.D.Mag[0])
		m := model{d, nil, [][]bool{slowRow(d, func(r int) bool {
			return slowLeft(zint.Add(zint.Mul(c, n(r)), node.T.K), d) == 0
		})}}
		if node.Kind == api.Not {
			return m.rest(), api.OK
		}
		return m, api.OK
	}
	all, e := slowOf(a, node.Kids[0], v)
	for _, kid := range node.Kids[1:] {
		next, e2 := slowOf(a, kid, v)
		switch {
		case e != api.OK || e2 != api.OK:
			return model{}, api.ErrPeriod
		case node.Kind == api.And:
			all, e = all.meet(next)
		default:
			all, e = all.join(next)
		}
	}
	return all, e
}

func (m model) String() string {
	return "period " + strconv.Itoa(m.period) + ", cuts " + tellInts(m.cuts)
}

// models fails unless a set is what the model is: period, cuts and numbers.
func models(t *testing.T, what string, s *periods.Set, m model) {
	t.Helper()
	if s == nil || s.Period() != m.period || tellInts(s.Cuts()) != tellInts(m.cuts) {
		t.Fatalf("%s: %s, want %s", what, short(tellSet(s)), short(m.String()))
	}
	for _, k := range probes(m.period, m.cuts) {
		if s.Has(k) != m.has(k) {
			t.Fatalf("%s: of %s Has says %v, in %s", what, tellInt(k), s.Has(k), short(tellSet(s)))
		}
	}
}

// A dice draws numbers, always the same ones.
type dice struct{ state uint64 }

// roll is one of 0 to n - 1.
func (d *dice) roll(n int) int {
	d.state = d.state*6364136223846793005 + 1442695040888963407
	return int((d.state >> 33) % uint64(n))
}

// number is a small one mostly, else one of at most so many limbs, on either side of 0.
func (d *dice) number(limbs int) api.Int {
	if d.roll(5) > 0 {
		return n(d.roll(41) - 20)
	}
	k := zint.Add(wide(1+d.roll(limbs)), n(d.roll(41)-20))
	if d.roll(2) == 0 {
		return opposite(k)
	}
	return k
}

// period draws a divisor of a number that goes with all others that are drawn with it; rarely one that does not.
func (d *dice) period(whole int) int {
	if d.roll(40) == 0 {
		return []int{17, 241, 4095, 4093, 81}[d.roll(5)]
	}
	var divisors []int
	for p := 1; p <= whole; p++ {
		if whole%p == 0 {
			divisors = append(divisors, p)
		}
	}
	return divisors[d.roll(len(divisors))]
}

// wholes are the numbers whose divisors are drawn together. Some of them are at the limit.
func wholes() []int { return []int{12, 60, 24, 7, 64, 128, 720, 4096, 3780} }

// A pair is a set and its model.
type pair struct {
	s *periods.Set
	m model
}

// simple draws a set that is not taken together of others.
func (d *dice) simple(whole int) pair {
	switch d.roll(9) {
	case 0:
		return pair{none(), slowNone()}
	case 1, 2, 3, 4:
		k := d.number(4)
		return pair{periods.Above(k), slowAbove(k)}
	}
	p, r := d.period(whole), d.number(4)
	sign := 1 - 2*d.roll(2)
	return pair{made(periods.Class(n(sign*p), r)), slowClass(p, r)}
}

// stretch draws a few numbers one behind the other, or those of them that a class has.
func (d *dice) stretch(t *testing.T, whole int) pair {
	t.Helper()
	lo := d.number(4)
	hi := plus(lo, d.roll(9))
	s := taken(t, pair{periods.Above(plus(lo, -1)), slowAbove(plus(lo, -1))}, pair{periods.Above(hi).Rest(), slowAbove(hi).rest()}, isMeet)
	if d.roll(3) == 0 {
		s = taken(t, s, d.simple(whole), isMeet)
	}
	return s
}

// set draws one that was taken together of so many others, with the model; what is refused leaves it as it is.
func (d *dice) set(t *testing.T, parts, whole int) pair {
	t.Helper()
	all := d.simple(whole)
	isJoined := d.roll(2)
	for range parts {
		next, joins := d.simple(whole), d.roll(2)
		if d.roll(3) > 0 {
			// Stretches are gathered, or taken out.
			next, joins = d.stretch(t, whole), isJoined
			if isJoined == isMeet {
				next = pair{next.s.Rest(), next.m.rest()}
			}
		} else if d.roll(3) == 0 {
			next = pair{next.s.Rest(), next.m.rest()}
		}
		if d.roll(2) == 0 {
			all, next = next, all
		}
		all = taken(t, all, next, joins)
	}
	if d.roll(4) == 0 {
		all = pair{all.s.Rest(), all.m.rest()}
	}
	return all
}

// The two ways to take sets together.
const (
	isMeet = iota
	isJoin
)

// taken takes two together, and fails unless the model is refused likewise; if they are refused, it is the first one.
func taken(t *testing.T, a, b pair, way int) pair {
	t.Helper()
	call, slow := (*periods.Set).Meet, model.meet
	if way == isJoin {
		call, slow = (*periods.Set).Join, model.join
	}
	s, e := call(a.s, b.s)
	m, wantE := slow(a.m, b.m)
	if e != wantE || (s == nil) != (e != api.OK) {
		t.Fatalf("of %s and %s: %v, want %v", short(tellSet(a.s)), short(tellSet(b.s)), e, wantE)
	}
	if e != api.OK {
		return a
	}
	return pair{s, m}
}

// Sets that are drawn are what their models are.
func TestDrawnSets(t *testing.T) {
	d := &dice{state: 181}
	long, many, gone := 0, 0, 0
	for i := range drawn {
		whole := wholes()[d.roll(len(wholes()))]
		parts := d.roll(12)
		drawnSet := d.set(t, parts, whole)
		models(t, "set "+strconv.Itoa(i), drawnSet.s, drawnSet.m)
		models(t, "the Rest of set "+strconv.Itoa(i), drawnSet.s.Rest(), drawnSet.m.rest())
		cuts := len(drawnSet.m.cuts)
		if drawnSet.m.period > 100 {
			long++
		}
		if cuts > 6 {
			many++
		}
		if parts > 6 && cuts < 3 {
			gone++
		}
	}
	// What was drawn has all that the test is for.
	if min(long, many, gone) < drawn/40 {
		t.Errorf("%d with long periods, %d with many cuts, %d of many parts with few", long, many, gone)
	}
}

// The models are looked at themselves, where the answer is plain.
func TestModels(t *testing.T) {
	both, e := slowAbove(n(3)).meet(slowClass(4, n(-1)))
	if e != api.OK || both.period != 4 || tellInts(both.cuts) != tellInts(numbers(4)) || !both.has(n(7)) || both.has(n(3)) || both.has(n(8)) {
		t.Errorf("%v, %v", both, e)
	}
	whole, e := slowAbove(n(3)).join(slowAbove(n(3)).rest())
	if e != api.OK || whole.period != 1 || len(whole.cuts) != 0 || !whole.has(wide(9)) || !whole.has(opposite(wide(9))) {
		t.Errorf("%v, %v", whole, e)
	}
	if _, e := slowClass(64, n(1)).meet(slowClass(81, n(1))); e != api.ErrPeriod {
		t.Error(e)
	}
	if slowLeft(raw(true, 5), 4) != 3 || slowLeft(raw(false, 1, 1), 2) != 1 || slowLeft(wide(3), 5) != 1 {
		t.Error("remainders")
	}
	a := arena.New(nil)
	m, e := slowOf(a, and(x(1, -3), not(2, 1, 0), x(-2, 20))(a), 0)
	if e != api.OK || m.period != 2 || tellInts(m.cuts) != tellInts(numbers(4, 10)) || !m.has(n(5)) || m.has(n(3)) || m.has(n(6)) || m.has(n(11)) {
		t.Errorf("%v, %v", m, e)
	}
}
