package census_test

import (
	"slices"
	"strconv"
	"testing"

	"riddle/api"
	"riddle/census"
	"riddle/periods"
	"riddle/zint"
)

// counted is what Count answers; the tests ask it of sets that are there.
func counted(t *testing.T, s *periods.Set, lo, hi api.Int) api.Int {
	t.Helper()
	k, e := census.Count(s, lo, hi)
	if e != api.OK || !zint.Valid(k) || zint.Sign(k) < 0 {
		t.Fatalf("Count from %s to %s: %s, %v", tellInt(lo), tellInt(hi), tellInt(k), e)
	}
	return k
}

// places draws so many numbers, rising or the same.
func (d *dice) places(m model, count int) []api.Int {
	var l []api.Int
	for range count {
		l = append(l, d.place(m))
	}
	slices.SortFunc(l, zint.Cmp)
	return l
}

// Count is that of two pieces together; of the set and its Rest together it is how many numbers there are.
func TestP194Together(t *testing.T) {
	d := &dice{state: 194}
	both, same := 0, 0
	for range drawn {
		m := d.model()
		s := m.set()
		rest := s.Rest()
		for range 3 {
			l := d.places(m, 3)
			lo, mid, hi := l[0], l[1], l[2]
			if d.roll(5) == 0 {
				mid = []api.Int{lo, hi}[d.roll(2)]
			}
			all, first, second := counted(t, s, lo, hi), counted(t, s, lo, mid), counted(t, s, plus(mid, 1), hi)
			if tellInt(zint.Add(first, second)) != tellInt(all) {
				t.Fatalf("from %s to %s, with %s: %s and %s, of %s, in %s", tellInt(lo), tellInt(hi), tellInt(mid), tellInt(first), tellInt(second), tellInt(all), short(tellSet(s)))
			}
			if others := counted(t, rest, lo, hi); tellInt(zint.Add(all, others)) != tellInt(plus(zint.Sub(hi, lo), 1)) {
				t.Fatalf("from %s to %s: %s, and %s others, in %s", tellInt(lo), tellInt(hi), tellInt(all), tellInt(others), short(tellSet(s)))
			}
			both += bit(zint.Sign(first) > 0 && zint.Sign(second) > 0)
			same += bit(zint.Cmp(mid, hi) == 0)
		}
	}
	if min(both, same) < drawn/10 {
		t.Errorf("both have some %d times, the second is none %d times", both, same)
	}
}

// Up to the next one there is one; from the last one on, too.
func TestP194ToTheNext(t *testing.T) {
	d := &dice{state: 195}
	is, none := 0, 0
	for range drawn {
		m := d.model()
		s := m.set()
		for range 4 {
			x := d.place(m)
			up, down := next(s, x), last(s, x)
			if up.is && (tellInt(counted(t, s, x, up.k)) != tellInt(n(1)) || !s.Has(up.k) || !zint.Valid(up.k) || zint.Cmp(up.k, x) < 0) {
				t.Fatalf("Next of %s is %v, in %s", tellInt(x), up, short(tellSet(s)))
			}
			if down.is && (tellInt(counted(t, s, down.k, x)) != tellInt(n(1)) || !s.Has(down.k) || !zint.Valid(down.k) || zint.Cmp(down.k, x) > 0) {
				t.Fatalf("Last of %s is %v, in %s", tellInt(x), down, short(tellSet(s)))
			}
			// Where there is none, there is none up to a number that is far behind all cuts.
			behind := plus(zint.Add(wide(20), x), m.period)
			if !up.is && zint.Sign(counted(t, s, x, behind)) != 0 {
				t.Fatalf("no Next of %s, in %s", tellInt(x), short(tellSet(s)))
			}
			if !down.is && zint.Sign(counted(t, s, zint.Sub(x, behind), x)) != 0 {
				t.Fatalf("no Last of %s, in %s", tellInt(x), short(tellSet(s)))
			}
			is, none = is+bit(up.is)+bit(down.is), none+bit(!up.is)+bit(!down.is)
		}
	}
	if min(is, none) < drawn/2 {
		t.Errorf("some %d times, none %d times", is, none)
	}
}

// List has as many as Count tells, each in the set, and rises; it is what Next tells again and again.
func TestP194Lists(t *testing.T) {
	d := &dice{state: 196}
	listed, long := 0, 0
	for range drawn {
		m := d.model()
		s := m.set()
		for range 3 {
			l := d.places(m, 2)
			lo, hi := l[0], l[1]
			if d.roll(2) == 0 {
				hi = plus(lo, d.roll(40*m.period))
			}
			count := counted(t, s, lo, hi)
			list, e := census.List(s, lo, hi)
			if zint.Cmp(count, n(api.MaxList)) > 0 {
				if e != api.ErrLong || list != nil {
					t.Fatalf("%d, %v where there are %s", len(list), e, tellInt(count))
				}
				long++
				continue
			}
			if e != api.OK || tellInt(n(len(list))) != tellInt(count) {
				t.Fatalf("from %s to %s: %d, %v, want %s", tellInt(lo), tellInt(hi), len(list), e, tellInt(count))
			}
			rises(t, "a list", list)
			for i, k := range list {
				if !s.Has(k) || i%20 == 0 && tellInt(next(s, lo).k) != tellInt(k) {
					t.Fatalf("%s is in the list, and Has says %v; ahead of it %s", tellInt(k), s.Has(k), tellInt(lo))
				}
				lo = plus(k, 1)
			}
			if len(list) > 0 && tellInt(last(s, hi).k) != tellInt(list[len(list)-1]) {
				t.Fatalf("Last of %s is %v", tellInt(hi), last(s, hi))
			}
			listed += bit(len(list) > 2)
		}
	}
	if min(listed, long) < drawn/10 {
		t.Errorf("listed %d times, too long %d times", listed, long)
	}
}

// Number by number: what Count, List, Next and Last tell is what Has tells.
func TestP194NumberByNumber(t *testing.T) {
	d := &dice{state: 197}
	some := 0
	for i := range drawn {
		m := d.model()
		s := m.set()
		lo := d.place(m)
		length := 1 + d.roll(min(2*m.period, 600)+20)
		hi := plus(lo, length-1)
		count := 0
		var members []api.Int
		for k := range length {
			if x := plus(lo, k); s.Has(x) {
				count++
				members = append(members, x)
			}
		}
		what := "set " + strconv.Itoa(i)
		counts(t, what, s, lo, hi, n(count))
		if count <= api.MaxList {
			lists(t, what, s, lo, hi, members)
		}
		if count > 0 {
			tells(t, what+": Next", next(s, lo), yes(members[0]))
			tells(t, what+": Last", last(s, hi), yes(members[count-1]))
			some++
		} else if f := next(s, lo); f.is && zint.Cmp(f.k, hi) <= 0 {
			t.Errorf("%s: Next of %s is %v", what, tellInt(lo), f)
		}
		if t.Failed() {
			t.Fatal(short(tellSet(s)))
		}
	}
	if min(some, drawn-some) < drawn/4 {
		t.Errorf("some %d times, of %d", some, drawn)
	}
}

// If the set is finite, Count from Least to any number behind all cuts is what Finite tells.
func TestP195Finite(t *testing.T) {
	d := &dice{state: 198}
	finites, empty, endless := 0, 0, 0
	for range drawn {
		m := d.model()
		s := m.set()
		total, first := finite(s), least(s)
		cuts := s.Cuts()
		if !total.is {
			// Without an end: at one side at least there is one beyond any number.
			if !next(s, wide(30)).is && !last(s, opposite(wide(30))).is {
				t.Fatalf("Finite is false of %s", short(tellSet(s)))
			}
			endless++
			continue
		}
		if next(s, wide(30)).is || last(s, opposite(wide(30))).is {
			t.Fatalf("Finite is %v of %s", total, short(tellSet(s)))
		}
		if !first.is {
			if tellInt(total.k) != "" || !s.Same(none()) {
				t.Fatalf("%v without a least one, of %s", total, short(tellSet(s)))
			}
			empty++
			continue
		}
		behind := cuts[len(cuts)-1]
		for _, hi := range bigs(behind, plus(behind, 1), plus(behind, d.roll(9000)), zint.Add(behind, wide(9))) {
			if got := counted(t, s, first.k, hi); tellInt(got) != tellInt(total.k) {
				t.Fatalf("from %s to %s: %s, and Finite says %v, of %s", tellInt(first.k), tellInt(hi), tellInt(got), total, short(tellSet(s)))
			}
		}
		// Below the least one there is none, and it is in the set.
		if !s.Has(first.k) || last(s, plus(first.k, -1)).is || tellInt(next(s, opposite(wide(40))).k) != tellInt(first.k) {
			t.Fatalf("Least is %v, of %s", first, short(tellSet(s)))
		}
		finites++
	}
	if min(finites, empty, endless) < drawn/20 {
		t.Errorf("%d finite, %d empty, %d without end", finites, empty, endless)
	}
}

// Next is the least of all that Has tells from x on; nothing is between, and Last likewise.
func TestP195Next(t *testing.T) {
	d := &dice{state: 199}
	far := 0
	for range drawn {
		m := d.model()
		s := m.set()
		x := d.place(m)
		up, down := next(s, x), last(s, x)
		for i := range 3 * m.period / 2 {
			k := plus(x, i)
			if s.Has(k) {
				tells(t, "Next of "+tellInt(x), up, yes(k))
				far += bit(i > 20)
				break
			}
		}
		for i := range 3 * m.period / 2 {
			k := plus(x, -i)
			if s.Has(k) {
				tells(t, "Last of "+tellInt(x), down, yes(k))
				break
			}
		}
		if t.Failed() {
			t.Fatal(short(tellSet(s)))
		}
	}
	if far < drawn/20 {
		t.Errorf("far %d times", far)
	}
}
