package census_test

import (
	"testing"

	"riddle/api"
	"riddle/census"
	"riddle/periods"
)

// A nil set is ErrArg ahead of anything else, and of what answers no error the zero values; whatever else is handed in.
func TestNilSet(t *testing.T) {
	for _, lo := range bigs(n(0), n(5), n(-5), wide(9), opposite(wide(9)), raw(true, 0, 0), raw(false, 1, 0)) {
		for _, hi := range bigs(n(0), n(4), n(-6), ten(40), opposite(ten(40)), raw(true)) {
			if k, e := census.Count(nil, lo, hi); e != api.ErrArg || k.Neg || k.Mag != nil {
				t.Errorf("Count: %s, %v", tellInt(k), e)
			}
			if l, e := census.List(nil, lo, hi); e != api.ErrArg || l != nil {
				t.Errorf("List: %s, %v", tellInts(l), e)
			}
		}
		for _, f := range []found{next(nil, lo), last(nil, lo), least(nil), finite(nil)} {
			if f.is || f.k.Neg || f.k.Mag != nil {
				t.Errorf("%v", f)
			}
		}
	}
	// A set that was refused is such a one.
	refused, e := class(64, 1).Meet(class(81, 1))
	if e != api.ErrPeriod {
		t.Fatal(e)
	}
	if _, e := census.Count(refused, n(0), n(9)); e != api.ErrArg {
		t.Error(e)
	}
	if finite(refused).is || next(refused, n(0)).is {
		t.Error("a set that was refused has numbers")
	}
}

// ErrLong is List's alone: Count tells how many, and beside ErrLong there is no list.
func TestErrLong(t *testing.T) {
	for _, s := range []*periods.Set{every(), above(-5), class(2, 1), class(4096, 7), meet(above(3), class(4096, 3)), between(0, 1000), by(4096, between(0, 1000))} {
		lo, hi := opposite(ten(20)), ten(20)
		tooLong(t, "far", s, lo, hi)
		if k, e := census.Count(s, lo, hi); e != api.OK || len(k.Mag) == 0 {
			t.Errorf("%s, %v", tellInt(k), e)
		}
		if l, e := census.List(s, hi, lo); e != api.OK || len(l) != 0 {
			t.Errorf("turned round: %d, %v", len(l), e)
		}
	}
}
