package census_test

import (
	"slices"
	"strconv"
	"strings"
	"testing"

	"riddle/api"
	"riddle/census"
	"riddle/periods"
	"riddle/zint"
)

const (
	top = 1<<32 - 1
	// drawn is how many sets a test draws.
	drawn = 400
)

// Numbers and sets are made here by short calls.

// n is a small number, made without the layers below.
func n(k int) api.Int {
	switch {
	case k == 0:
		return api.Int{}
	case k < 0:
		return api.Int{Neg: true, Mag: []uint32{uint32(-k)}}
	}
	return api.Int{Mag: []uint32{uint32(k)}}
}

// raw is a number limb by limb, which need not stand as it should.
func raw(neg bool, limbs ...uint32) api.Int { return api.Int{Neg: neg, Mag: limbs} }

// wide is a number of just so many limbs, as small as such a one can be.
func wide(limbs int) api.Int { return api.Int{Mag: append(make([]uint32, limbs-1), 1)} }

// widest is the greatest number of just so many limbs.
func widest(limbs int) api.Int { return api.Int{Mag: slices.Repeat([]uint32{top}, limbs)} }

func opposite(a api.Int) api.Int { return api.Int{Neg: len(a.Mag) > 0 && !a.Neg, Mag: a.Mag} }

// plus is a number and a little more, times is so many of it.

func plus(a api.Int, k int) api.Int { return zint.Add(a, n(k)) }

func times(a api.Int, k int) api.Int { return zint.Mul(a, n(k)) }

// read is a number from its text.
func read(text string) api.Int {
	k, e := zint.Parse(text)
	if e != api.OK {
		panic(e)
	}
	return k
}

// ten is 1 with so many noughts.
func ten(noughts int) api.Int { return read("1" + strings.Repeat("0", noughts)) }

func numbers(l ...int) []api.Int {
	var all []api.Int
	for _, k := range l {
		all = append(all, n(k))
	}
	return all
}

func bigs(l ...api.Int) []api.Int { return l }

// made fails where a test has made a set that can't be.
func made(s *periods.Set, e api.Errno) *periods.Set {
	if s == nil || e != api.OK {
		panic(e)
	}
	return s
}

func none() *periods.Set { return periods.None() }

func every() *periods.Set { return periods.None().Rest() }

func above(k int) *periods.Set { return periods.Above(n(k)) }

// upTo are the numbers that are not above k.
func upTo(k int) *periods.Set { return above(k).Rest() }

func class(d, r int) *periods.Set { return made(periods.Class(n(d), n(r))) }

func meet(first *periods.Set, others ...*periods.Set) *periods.Set {
	for _, o := range others {
		first = made(first.Meet(o))
	}
	return first
}

func join(first *periods.Set, others ...*periods.Set) *periods.Set {
	for _, o := range others {
		first = made(first.Join(o))
	}
	return first
}

// span are the numbers from one on up to another one, both with them.
func span(lo, hi api.Int) *periods.Set {
	return meet(periods.Above(plus(lo, -1)), periods.Above(hi).Rest())
}

func between(lo, hi int) *periods.Set { return span(n(lo), n(hi)) }

// one is the set of one number.
func one(k int) *periods.Set { return between(k, k) }

// by is the same set with a longer period.
func by(period int, s *periods.Set) *periods.Set { return join(s, meet(none(), class(period, 0))) }

// The tellers tell all fields as they stand, limb by limb, so that what differs in anything is told otherwise.

func tellInt(a api.Int) string {
	var b strings.Builder
	if a.Neg {
		b.WriteString("-")
	}
	for _, limb := range a.Mag {
		b.WriteString("'" + strconv.FormatUint(uint64(limb), 10))
	}
	return b.String()
}

func tellInts(l []api.Int) string {
	var texts []string
	for _, a := range l {
		texts = append(texts, tellInt(a))
	}
	return "(" + strings.Join(texts, ", ") + ")"
}

// tellSet tells a set as far as calls can: its period, its cuts, and which of the numbers around these it has.
func tellSet(s *periods.Set) string {
	if s == nil {
		return "nil"
	}
	var b strings.Builder
	b.WriteString("period " + strconv.Itoa(s.Period()) + ", cuts " + tellInts(s.Cuts()) + ", ")
	for _, place := range append(s.Cuts(), n(0)) {
		for k := range 40 {
			if s.Has(plus(place, k-20)) {
				b.WriteByte('+')
			} else {
				b.WriteByte('.')
			}
		}
	}
	return b.String()
}

// short cuts what would fill pages.
func short(text string) string {
	if len(text) > 2000 {
		return text[:2000] + ".."
	}
	return text
}

// counts fails unless Count answers that, and the second time, too.
func counts(t *testing.T, what string, s *periods.Set, lo, hi, want api.Int) {
	t.Helper()
	for range 2 {
		if got, e := census.Count(s, lo, hi); e != api.OK || tellInt(got) != tellInt(want) {
			t.Errorf("%s: Count from %s to %s is %s, %v, want %s", what, short(tellInt(lo)), short(tellInt(hi)), short(tellInt(got)), e, short(tellInt(want)))
		}
	}
}

// lists fails unless List answers those, and the second time, too.
func lists(t *testing.T, what string, s *periods.Set, lo, hi api.Int, want []api.Int) {
	t.Helper()
	for range 2 {
		if got, e := census.List(s, lo, hi); e != api.OK || tellInts(got) != tellInts(want) {
			t.Errorf("%s: List from %s to %s is %s, %v, want %s", what, short(tellInt(lo)), short(tellInt(hi)), short(tellInts(got)), e, short(tellInts(want)))
		}
	}
}

// tooLong fails unless List answers ErrLong, and nothing beside.
func tooLong(t *testing.T, what string, s *periods.Set, lo, hi api.Int) {
	t.Helper()
	if got, e := census.List(s, lo, hi); e != api.ErrLong || len(got) != 0 {
		t.Errorf("%s: List from %s to %s has %d, %v", what, short(tellInt(lo)), short(tellInt(hi)), len(got), e)
	}
}

// A found is a number, if there is one.
type found struct {
	k  api.Int
	is bool
}

func yes(k api.Int) found { return found{k, true} }

func no() found { return found{} }

func (f found) String() string { return strconv.FormatBool(f.is) + " " + short(tellInt(f.k)) }

func next(s *periods.Set, x api.Int) found {
	k, is := census.Next(s, x)
	return found{k, is}
}

func last(s *periods.Set, x api.Int) found {
	k, is := census.Last(s, x)
	return found{k, is}
}

func least(s *periods.Set) found {
	k, is := census.Least(s)
	return found{k, is}
}

func finite(s *periods.Set) found {
	k, is := census.Finite(s)
	return found{k, is}
}

// tells fails unless what was found is what is wanted, limb by limb.
func tells(t *testing.T, what string, got, want found) {
	t.Helper()
	if got.is != want.is || tellInt(got.k) != tellInt(want.k) {
		t.Errorf("%s: %v, want %v", what, got, want)
	}
}

// The examples of the chapter.
func TestExamples(t *testing.T) {
	s, u := meet(above(3), class(4, 1)), between(1, 9)
	counts(t, "s", s, n(0), n(20), n(4))
	counts(t, "s", s, opposite(ten(30)), ten(30), read("249999999999999999999999999999"))
	counts(t, "s", s, n(5), n(4), n(0))
	tells(t, "Next(s, 6)", next(s, n(6)), yes(n(9)))
	tells(t, "Next(s, -7)", next(s, n(-7)), yes(n(5)))
	tells(t, "Last(s, 12)", last(s, n(12)), yes(n(9)))
	tells(t, "Last(s, 4)", last(s, n(4)), no())
	tells(t, "Least(s)", least(s), yes(n(5)))
	tells(t, "Finite(s)", finite(s), no())
	lists(t, "s", s, n(0), n(14), numbers(5, 9, 13))
	tooLong(t, "s", s, n(0), n(1000000))
	if u.Period() != 1 {
		t.Fatalf("period %d", u.Period())
	}
	tells(t, "Finite(t)", finite(u), yes(n(9)))
	tells(t, "Least(t)", least(u), yes(n(1)))
	tells(t, "Last(t, 10^40)", last(u, ten(40)), yes(n(9)))
	tells(t, "Finite(None)", finite(none()), yes(n(0)))
	tells(t, "Least(None)", least(none()), no())
	if api.ErrArg != 1 || api.ErrLong != 2 || api.MaxList != 1000 || api.MaxPeriod != 4096 {
		t.Error("the errors, or the limits, have other numbers")
	}
}
