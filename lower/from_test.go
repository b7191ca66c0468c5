package lower_test

import (
	"slices"
	"strconv"
	"strings"
	"testing"

	"riddle/api"
	"riddle/arena"
	"riddle/lower"
)

// A row is a formula with what is made for it in a new arena, in that order, on the side true and on the side false: nodes
// by their texts, kids by their numbers (0 is False, 1 is True, the first one that is made is 2). The answer is the last one,
// or the number behind a `=`.
type row struct{ text, yes, no string }

// side is a formula that goes to a side, and what is made for it.
type side struct {
	of, made string
}

// sides are the ways to a row's sides: as it stands and by two nots; by one not, and by three.
func (r row) sides() []side {
	return []side{{r.text, r.yes}, {"not not (" + r.text + ")", r.yes}, {"not (" + r.text + ")", r.no}, {"not not not (" + r.text + ")", r.no}}
}

// parted is what is made, node by node, and the answer.
func (s side) parted() (made []string, answer int) {
	text, number, told := strings.Cut(s.made, "= ")
	if text = strings.TrimSpace(text); text != "" {
		made = strings.Split(text, "; ")
	}
	answer = 1 + len(made)
	if told {
		answer, _ = strconv.Atoi(number)
	}
	return made, answer
}

// holds fails unless From answers what it should and makes just what it should, in its order; unless it answers the same
// again and makes nothing then; and unless with fewer nodes it stops where the meter does, and what was made stays.
func (s side) holds(t *testing.T) {
	t.Helper()
	u := read(t, s.of)
	made, want := s.parted()
	a := arena.New(nil)
	got, e := lower.From(a, u)
	if got != want || e != api.OK || tellMade(a, 2) != strings.Join(made, "; ") {
		t.Fatalf("%q: %d, %v: %s, want %d: %s", s.of, got, e, tellMade(a, 2), want, strings.Join(made, "; "))
	}
	if again, e := lower.From(a, u); again != want || e != api.OK || a.Len() != 2+len(made) || a.Meter().Spent() != len(made) {
		t.Fatalf("%q, for the second time: %d, %v, %d made", s.of, again, e, a.Len()-2-len(made))
	}
	for few := 1; few < len(made); few++ {
		a := arena.New(meterOf(t, few, 8))
		got, e := lower.From(a, u)
		if got != 0 || e != api.ErrNodes || a.Meter().Over() != e || tellMade(a, 2) != strings.Join(made[:few], "; ") {
			t.Fatalf("%q, with %d nodes: %d, %v: %s, want %s", s.of, few, got, e, tellMade(a, 2), strings.Join(made[:few], "; "))
		}
	}
}

func holdAll(t *testing.T, rows []row) {
	t.Helper()
	for _, r := range rows {
		for _, s := range r.sides() {
			s.holds(t)
		}
	}
}

func TestP102Constants(t *testing.T) {
	holdAll(t, []row{
		{"true", "= 1", "= 0"}, {"false", "= 0", "= 1"},
		{"0 < 1", "= 1", "= 0"}, {"1 < 0", "= 0", "= 1"}, {"1 < 1", "= 0", "= 1"}, {"1 <= 1", "= 1", "= 0"}, {"2 <= 1", "= 0", "= 1"}, {"1 > 0", "= 1", "= 0"}, {"1 > 1", "= 0", "= 1"}, {"1 >= 1", "= 1", "= 0"}, {"0 >= 1", "= 0", "= 1"},
		{"3 = 3", "= 1", "= 0"}, {"3 = 4", "= 0", "= 1"}, {"4 = 3", "= 0", "= 1"}, {"3 != 3", "= 0", "= 1"}, {"3 != 4", "= 1", "= 0"}, {"4 != 3", "= 1", "= 0"}, {"2 divides 4", "= 1", "= 0"}, {"2 divides 3", "= 0", "= 1"}, {"1 divides x", "= 1", "= 0"}, {"5 divides 0", "= 1", "= 0"},
		// No variable is left.
		{"x < x", "= 0", "= 1"}, {"x <= x", "= 1", "= 0"}, {"x = x", "= 1", "= 0"}, {"x != x", "= 0", "= 1"}, {"0 * x < 1", "= 1", "= 0"}, {"x = x + 1", "= 0", "= 1"}, {"2 * (x - y) + y < x + x - y", "= 0", "= 1"}, {"4 divides 8 * x + 4", "= 1", "= 0"}, {"4 divides 2 * x + 1", "= 0", "= 1"},
		{"true and false", "= 0", "= 1"}, {"true or false", "= 1", "= 0"}, {"true implies false", "= 0", "= 1"}, {"false implies false", "= 1", "= 0"}, {"true iff false", "= 0", "= 1"}, {"false iff false", "= 1", "= 0"},
	})
}

// Each comparison, each way round, on both sides.
func TestP102Comparisons(t *testing.T) {
	below, notBelow := "0<-v0+v1", "0<v0-v1+1" // x < y
	above, notAbove := "0<v0-v1", "0<-v0+v1+1" // y < x
	same := notAbove + "; " + notBelow + "; and 2 3"
	emas := notBelow + "; " + notAbove + "; and 2 3"
	other := below + "; " + above + "; or 2 3"
	rehto := above + "; " + below + "; or 2 3"
	holdAll(t, []row{
		{"x < y", below, notBelow}, {"y > x", below, notBelow}, {"y < x", above, notAbove}, {"x > y", above, notAbove},
		{"x <= y", notAbove, above}, {"y >= x", notAbove, above}, {"y <= x", notBelow, below}, {"x >= y", notBelow, below},
		{"x = y", same, other}, {"y = x", emas, rehto}, {"x != y", other, same}, {"y != x", rehto, emas},
		{"y < x + 1", "0<v0-v1+1", "0<-v0+v1"}, {"x <= 3", "0<-v0+4", "0<v0-3"}, {"x = 2 * y", "0<-v0+2v1+1; 0<v0-2v1+1; and 2 3", "0<-v0+2v1; 0<v0-2v1; or 2 3"},
		// In one form each: divided by what the coefficients have in common.
		{"2 * x < 3", "0<-v0+2", "0<v0-1"}, {"6 <= 4 * x", "0<v0-1", "0<-v0+2"}, {"3 * x > 7 - 3 * y", "0<v0+v1-2", "0<-v0-v1+3"},
		// Two atoms are made, though nothing but a constant comes of them.
		{"2 * x = 3", "0<-v0+2; 0<v0-1 = 0", "0<-v0+2; 0<v0-1 = 1"}, {"2 * x != 3", "0<-v0+2; 0<v0-1 = 1", "0<-v0+2; 0<v0-1 = 0"},
		{"2 * x = 4", "0<-v0+3; 0<v0-1; and 2 3", "0<-v0+2; 0<v0-2; or 2 3"},
	})
}

func TestP102Divisibility(t *testing.T) {
	holdAll(t, []row{
		{"3 divides x + 1", "3|v0+1", "3!v0+1"}, {"4 divides 2 * x", "2|v0", "2!v0"}, {"5 divides 2 - x + y", "5|v0+4v1+3", "5!v0+4v1+3"}, {"7 divides -x", "7|v0", "7!v0"}, {"6 divides 4 * y + 2 - (x - x)", "3|v1+2", "3!v1+2"},
	})
}

func TestP102Connectives(t *testing.T) {
	holdAll(t, []row{
		{"x < 1 and y < 1", "0<-v0+1; 0<-v1+1; and 2 3", "0<v0; 0<v1; or 2 3"},
		{"x < 1 or y < 1", "0<-v0+1; 0<-v1+1; or 2 3", "0<v0; 0<v1; and 2 3"},
		{"y < 1 and x < 1", "0<-v1+1; 0<-v0+1; and 2 3", "0<v1; 0<v0; or 2 3"},
		{"x < 1 and y < 1 and z < 1", "0<-v0+1; 0<-v1+1; 0<-v2+1; and 2 3 4", "0<v0; 0<v1; 0<v2; or 2 3 4"},
		{"z < 1 or y < 1 or x < 1 or 2 divides x", "0<-v2+1; 0<-v1+1; 0<-v0+1; 2|v0; or 2 3 4 5", "0<v2; 0<v1; 0<v0; 2!v0; and 2 3 4 5"},
		{"x < 1 and not y < 1 and 3 divides x", "0<-v0+1; 0<v1; 3|v0; and 2 3 4", "0<v0; 0<-v1+1; 3!v0; or 2 3 4"},
		{"x < 1 and (y < 1 or z < 1)", "0<-v0+1; 0<-v1+1; 0<-v2+1; or 3 4; and 2 5", "0<v0; 0<v1; 0<v2; and 3 4; or 2 5"},
		{"(x < 1 or y < 1) and z < 1", "0<-v0+1; 0<-v1+1; or 2 3; 0<-v2+1; and 4 5", "0<v0; 0<v1; and 2 3; 0<v2; or 4 5"},
		{"x < 1 and not (y < 1 or z < 1)", "0<-v0+1; 0<v1; 0<v2; and 3 4; and 2 3 4", "0<v0; 0<-v1+1; 0<-v2+1; or 3 4; or 2 3 4"},
		{"(x < 1 and y < 1) and z < 1", "0<-v0+1; 0<-v1+1; and 2 3; 0<-v2+1; and 2 3 5", "0<v0; 0<v1; or 2 3; 0<v2; or 2 3 5"},
		{"x < 1 implies y < 1", "0<v0; 0<-v1+1; or 2 3", "0<-v0+1; 0<v1; and 2 3"},
		{"x < 1 implies y < 1 implies z < 1", "0<v0; 0<v1; 0<-v2+1; or 3 4; or 2 3 4", "0<-v0+1; 0<-v1+1; 0<v2; and 3 4; and 2 3 4"},
		{"(x < 1 implies y < 1) implies z < 1", "0<-v0+1; 0<v1; and 2 3; 0<-v2+1; or 4 5", "0<v0; 0<-v1+1; or 2 3; 0<v2; and 4 5"},
		{"x = 1 implies x != 2", "0<-v0+1; 0<v0-1; or 2 3; 0<-v0+2; 0<v0-2; or 5 6 = 1", "0<-v0+2; 0<v0; and 2 3; 0<-v0+3; 0<v0-1; and 5 6 = 0"},
		{"x < 1 iff y < 1", "0<-v0+1; 0<-v1+1; and 2 3; 0<v0; 0<v1; and 5 6; or 4 7", "0<-v0+1; 0<v1; and 2 3; 0<v0; 0<-v1+1; and 5 6; or 4 7"},
		{"2 divides x iff true", "2|v0; 2!v0 = 2", "2|v0; 2!v0 = 3"}, {"true iff 2 divides x", "2|v0; 2!v0 = 2", "2!v0; 2|v0 = 2"}, {"false iff 2 divides x", "2|v0; 2!v0 = 3", "2!v0; 2|v0 = 3"},
	})
}

// What came of a tree on a side is not made again; what is made first is what a row names first.
func TestP102IffWithinIff(t *testing.T) {
	holdAll(t, []row{
		{"(x < 1 iff y < 1) iff z < 1",
			"0<-v0+1; 0<-v1+1; and 2 3; 0<v0; 0<v1; and 5 6; or 4 7; 0<-v2+1; and 8 9; and 2 6; and 3 5; or 11 12; 0<v2; and 13 14; or 10 15",
			"0<-v0+1; 0<-v1+1; and 2 3; 0<v0; 0<v1; and 5 6; or 4 7; 0<v2; and 8 9; and 2 6; and 3 5; or 11 12; 0<-v2+1; and 13 14; or 10 15"},
		{"x < 1 iff (y < 1 iff z < 1)",
			"0<-v0+1; 0<-v1+1; 0<-v2+1; and 3 4; 0<v1; 0<v2; and 6 7; or 5 8; and 2 9; 0<v0; and 3 7; and 4 6; or 12 13; and 11 14; or 10 15",
			"0<-v0+1; 0<-v1+1; 0<v2; and 3 4; 0<v1; 0<-v2+1; and 6 7; or 5 8; and 2 9; 0<v0; and 3 7; and 4 6; or 12 13; and 11 14; or 10 15"},
		{"x < 1 iff (y < 1 implies z < 1)",
			"0<-v0+1; 0<v1; 0<-v2+1; or 3 4; and 2 5; 0<v0; 0<-v1+1; 0<v2; and 8 9; and 7 8 9; or 6 11",
			"0<-v0+1; 0<-v1+1; 0<v2; and 3 4; and 2 3 4; 0<v0; 0<v1; 0<-v2+1; or 8 9; and 7 10; or 6 11"},
	})
}

func TestP102Quantifiers(t *testing.T) {
	holdAll(t, []row{
		{"some x . x < 1", "0<-v0+1; some v0 2", "0<v0; all v0 2"}, {"all x . x < 1", "0<-v0+1; all v0 2", "0<v0; some v0 2"},
		{"some x . true", "some v0 1", "all v0 0"}, {"all x . false", "all v0 0", "some v0 1"}, {"some x . y < 1", "0<-v0+1; some v1 2", "0<v0; all v1 2"},
		{"some x y z . x < y + z", "0<-v0+v1+v2; some v2 2; some v1 3; some v0 4", "0<v0-v1-v2+1; all v2 2; all v1 3; all v0 4"},
		{"all z y . x < y + z", "0<-v0+v1+v2; all v2 2; all v1 3", "0<v0-v1-v2+1; some v2 2; some v1 3"},
		{"some x x . x < 1", "0<-v1+1; some v1 2; some v0 3", "0<v1; all v1 2; all v0 3"}, {"all x y x . x < y", "0<v1-v2; all v2 2; all v1 3; all v0 4", "0<-v1+v2+1; some v2 2; some v1 3; some v0 4"},
		{"some x . some x . x < 1", "0<-v1+1; some v1 2; some v0 3", "0<v1; all v1 2; all v0 3"}, {"all x . some y . x < y", "0<-v0+v1; some v1 2; all v0 3", "0<v0-v1+1; all v1 2; some v0 3"},
		{"all x . x < 1 and some x . x < 2", "0<-v0+1; 0<-v1+2; some v1 3; and 2 4; all v0 5", "0<v0; 0<v1-1; all v1 3; or 2 4; some v0 5"},
		{"some x . y < x and not some y . x < y", "0<-v0+v1; 0<v1-v2+1; all v2 3; and 2 4; some v1 5", "0<v0-v1+1; 0<-v1+v2; some v2 3; or 2 4; all v1 5"},
	})
}

// A quantifier below each connective, on both of its sides.
func TestP102QuantifiersBelow(t *testing.T) {
	holdAll(t, []row{
		{"(some x . x < y) and (all x . y < x)", "0<v0-v1; some v1 2; 0<-v0+v2; all v2 4; and 3 5", "0<-v0+v1+1; all v1 2; 0<v0-v2+1; some v2 4; or 3 5"},
		{"(some x . x < y) or x < 1 or (all y x . y < x)", "0<v1-v2; some v2 2; 0<-v0+1; 0<-v3+v4; all v4 5; all v3 6; or 3 4 7", "0<-v1+v2+1; all v2 2; 0<v0; 0<v3-v4+1; some v4 5; some v3 6; and 3 4 7"},
		{"(some x y . x < y) and (all z x . z < x)", "0<-v0+v1; some v1 2; some v0 3; 0<-v2+v3; all v3 5; all v2 6; and 4 7", "0<v0-v1+1; all v1 2; all v0 3; 0<v2-v3+1; some v3 5; some v2 6; or 4 7"},
		{"x < 1 implies some x . x < 2", "0<v0; 0<-v1+2; some v1 3; or 2 4", "0<-v0+1; 0<v1-1; all v1 3; and 2 4"},
		{"(all x . x < 2) implies x < 1", "0<v1-1; some v1 2; 0<-v0+1; or 3 4", "0<-v1+2; all v1 2; 0<v0; and 3 4"},
		{"(some x . x < 1) iff (all x . x < 1)",
			"0<-v0+1; some v0 2; 0<-v1+1; all v1 4; and 3 5; 0<v0; all v0 7; 0<v1; some v1 9; and 8 10; or 6 11",
			"0<-v0+1; some v0 2; 0<v1; some v1 4; and 3 5; 0<v0; all v0 7; 0<-v1+1; all v1 9; and 8 10; or 6 11"},
		{"(some x . x < 1 iff y < 1) iff y < 2",
			"0<-v1+1; 0<-v0+1; and 2 3; 0<v1; 0<v0; and 5 6; or 4 7; some v1 8; 0<-v0+2; and 9 10; and 2 6; and 3 5; or 12 13; all v1 14; 0<v0-1; and 15 16; or 11 17",
			"0<-v1+1; 0<-v0+1; and 2 3; 0<v1; 0<v0; and 5 6; or 4 7; some v1 8; 0<v0-1; and 9 10; and 2 6; and 3 5; or 12 13; all v1 14; 0<-v0+2; and 15 16; or 11 17"},
	})
}

// What is joined is made simpler; what it is joined of was made by then.
func TestP102Simpler(t *testing.T) {
	holdAll(t, []row{
		{"x < 1 and x < 5", "0<-v0+1; 0<-v0+5 = 2", "0<v0; 0<v0-4 = 2"}, {"x < 1 or x < 5", "0<-v0+1; 0<-v0+5 = 3", "0<v0; 0<v0-4 = 3"}, {"x < 1 and x > 1", "0<-v0+1; 0<v0-1 = 0", "0<v0; 0<-v0+2 = 1"},
		{"2 divides x and not 2 divides x", "2|v0; 2!v0 = 0", "2!v0; 2|v0 = 1"}, {"x < 1 and (y < 1 or x < 1)", "0<-v0+1; 0<-v1+1; or 2 3 = 2", "0<v0; 0<v1; and 2 3 = 2"},
		{"x < 1 and true and y < 1", "0<-v0+1; 0<-v1+1; and 2 3", "0<v0; 0<v1; or 2 3"}, {"x < 1 and false", "0<-v0+1 = 0", "0<v0 = 1"}, {"true or x < 1", "0<-v0+1 = 1", "0<v0 = 0"}, {"x < 1 or x < 1", "0<-v0+1", "0<v0"}, {"x < 1 iff x < 1", "0<-v0+1; 0<v0 = 1", "0<-v0+1; 0<v0 = 0"},
		{"x = y and y = x", "0<-v0+v1+1; 0<v0-v1+1; and 2 3", "0<-v0+v1; 0<v0-v1; or 2 3"}, {"some x . x < 1 and x > 1", "0<-v0+1; 0<v0-1; some v0 0", "0<v0; 0<-v0+2; all v0 1"},
	})
}

// A formula finds what another one made, and makes the rest behind it.
func TestP102WhatIsThere(t *testing.T) {
	a := arena.New(nil)
	for _, l := range []struct {
		text, made string
		want       int
	}{
		{"x < 1 and y < 1", "0<-v0+1; 0<-v1+1; and 2 3", 4}, {"not (y < 1 and x < 1)", "0<v1; 0<v0; or 5 6", 7}, {"some q . a < 1 and b < 1", "some v2 4", 8}, {"p < 1", "", 2}, {"not (p >= 1 or q >= 1)", "", 4}, {"y < 1 or x < 1 or z < 1", "0<-v2+1; or 2 3 9", 10}, {"all q . p >= 1", "all v1 6", 11},
	} {
		was := a.Len()
		if got, e := lower.From(a, read(t, l.text)); got != l.want || e != api.OK || tellMade(a, was) != l.made {
			t.Errorf("%q: %d, %v: %s, want %d: %s", l.text, got, e, tellMade(a, was), l.want, l.made)
		}
	}
}

// A nil arena is ErrArg, ahead of all that the tree may be.
func TestP102NilArena(t *testing.T) {
	for _, r := range append(refusals(), refusal{"a formula", read(t, "some x . x < y"), api.OK}) {
		if id, e := lower.From(nil, r.tree); id != 0 || e != api.ErrArg {
			t.Errorf("From of %s without an arena: %d, %v", r.of, id, e)
		}
	}
}

// What may not be is refused with the error's number, and nothing is made, nor counted; so it is if the meter is over.
func TestP102Refused(t *testing.T) {
	over := arena.New(meterOf(t, 1, 1))
	over.Meter().Spend(2)
	for _, a := range []*arena.Arena{arena.New(nil), over} {
		was := tellArena(a)
		for _, r := range refusals() {
			if id, e := lower.From(a, r.tree); id != 0 || e != r.e || tellArena(a) != was {
				t.Errorf("From of %s: %d, %v, want %v: %s", r.of, id, e, r.e, tellArena(a))
			}
		}
	}
}

// With a meter that is over what is there is answered, and what needs no node.
func TestP102MeterOver(t *testing.T) {
	a := arena.New(meterOf(t, 3, 1))
	from(t, a, read(t, "x < 1 and y < 1"))
	for _, l := range []struct {
		text string
		want int
		e    api.Errno
	}{
		{"x < 1 and y < 1", 4, api.OK}, {"x < 2", 0, api.ErrNodes}, {"x < 1 and y < 1", 4, api.OK}, {"not x >= 1", 2, api.OK}, {"x < x", 0, api.OK}, {"true or false", 1, api.OK}, {"x < 1 and x > 2", 0, api.ErrNodes}, {"some x . true", 0, api.ErrNodes}, {"x < 1 or y < 1", 0, api.ErrNodes},
		{"x < 1 and y < 1 or false", 4, api.OK}, {"x < 1 and y < 1 or z < 1 and true", 0, api.ErrNodes}, {"x < 1 iff true", 0, api.ErrNodes},
	} {
		if got, e := lower.From(a, read(t, l.text)); got != l.want || e != l.e || a.Len() != 5 {
			t.Errorf("%q: %d, %v, want %d, %v", l.text, got, e, l.want, l.e)
		}
	}
}

// The first error is answered, though what a row names behind it is there.
func TestP102FirstError(t *testing.T) {
	a := arena.New(meterOf(t, 4, 1))
	for _, text := range []string{"x > -1", "x > 0", "some x . false", "all x . false"} {
		from(t, a, read(t, text))
	}
	a.Meter().Spend(1)
	was := tellArena(a)
	for _, text := range []string{
		"x = 0", "not x != 0", "x != 0", "not x = 0", "x < 7 and x > 0", "x < 7 or x > 0", "x < 7 or true", "x < 7 and false", "x < 7 implies x > 0", "x > 0 implies x < 7", "x < 7 iff x > 0", "x > 0 iff x < 7", "not (x < 7 iff x > 0)", "true iff x < 7",
		"some x . x < 7", "all x . x < 7", "not some x . x < 7", "some x x . x < 7", "all x . some x . x < 7", "(some x . x < 7) and (all x . false)", "not not x < 7",
	} {
		if id, e := lower.From(a, read(t, text)); id != 0 || e != api.ErrNodes || tellArena(a) != was {
			t.Errorf("%q: %d, %v: %s", text, id, e, tellArena(a))
		}
	}
}

// A number of more limbs than may be is refused where it would stand in a node; what was made ahead of it stays.
func TestP102Limbs(t *testing.T) {
	for limbs := 1; limbs <= api.MaxLimbs; limbs++ {
		most, beyond := great(widest(limbs)), great(n(append(make([]uint32, limbs), 1)...))
		for _, l := range []struct {
			what string
			u    api.Tree
			made int
			e    api.Errno
		}{
			{"x < most", lt(v("x"), most), 1, api.OK}, {"x <= most", of(api.TreeLe, v("x"), most), 0, api.ErrLimbs}, {"most < x", lt(most, v("x")), 1, api.OK}, {"not x < most", not(lt(v("x"), most)), 1, api.OK}, {"not most < x", not(lt(most, v("x"))), 0, api.ErrLimbs}, {"x < beyond", lt(v("x"), beyond), 0, api.ErrLimbs},
			{"y < 1 and x < beyond and z < 1", and(below1("y"), lt(v("x"), beyond), below1("z")), 1, api.ErrLimbs}, {"y < 1 or (z < 1 and x = beyond)", or(below1("y"), and(below1("z"), of(api.TreeEq, v("x"), beyond))), 2, api.ErrLimbs},
			{"x = most", of(api.TreeEq, v("x"), most), 0, api.ErrLimbs}, {"x = -most", of(api.TreeEq, v("x"), neg(most)), 1, api.ErrLimbs}, {"x != most", of(api.TreeNe, v("x"), most), 3, api.OK}, {"most * x < y", lt(mul(most.N, v("x")), v("y")), 1, api.OK}, {"beyond * x < y", lt(mul(beyond.N, v("x")), v("y")), 0, api.ErrLimbs},
			{"most divides x", divides(most.N, v("x")), 1, api.OK}, {"beyond divides x", divides(beyond.N, v("x")), 0, api.ErrLimbs}, {"not beyond divides x", not(divides(beyond.N, v("x"))), 0, api.ErrLimbs},
			{"some x . x < beyond", some("x", lt(v("x"), beyond)), 0, api.ErrLimbs}, {"y < 1 iff x < beyond", iff(below1("y"), lt(v("x"), beyond)), 1, api.ErrLimbs}, {"x < beyond implies y < 1", of(api.TreeImplies, lt(v("x"), beyond), below1("y")), 3, api.OK}, {"x <= beyond implies y < 1", of(api.TreeImplies, of(api.TreeLe, v("x"), beyond), below1("y")), 0, api.ErrLimbs},
			// Great numbers that come to nothing, or are divided away.
			{"beyond * x < beyond", lt(mul(beyond.N, v("x")), beyond), 1, api.OK}, {"beyond * x - beyond * x < 1", lt(sub(mul(beyond.N, v("x")), mul(beyond.N, v("x"))), num(1)), 0, api.OK}, {"beyond divides beyond * x", divides(beyond.N, mul(beyond.N, v("x"))), 0, api.OK}, {"x + beyond < y + beyond", lt(add(v("x"), beyond), add(v("y"), beyond)), 1, api.OK}, {"beyond < 1", lt(beyond, num(1)), 0, api.OK}, {"2 divides beyond * x + y", divides(n(2), add(mul(beyond.N, v("x")), v("y"))), 1, api.OK},
		} {
			a := arena.New(meterOf(t, 100, limbs))
			if id, e := lower.From(a, l.u); e != l.e || a.Len() != 2+l.made || e != api.OK && id != 0 || a.Meter().Over() != e {
				t.Errorf("%d limbs: %s: %d, %v: %s, want %v and %d nodes", limbs, l.what, id, e, tellArena(a), l.e, l.made)
			}
		}
	}
}

// The chapter's examples.
func TestExamples(t *testing.T) {
	for _, l := range []struct{ text, names, made string }{
		{"y < x + 1", "x y", "0<v0-v1+1"}, {"not (x <= 3)", "x", "0<v0-3"}, {"x = 2 * y", "x y", "0<-v0+2v1+1; 0<v0-2v1+1; and 2 3"},
		{"some x . y < x and not some y . x < y", "y x y", "0<-v0+v1; 0<v1-v2+1; all v2 3; and 2 4; some v1 5"}, {"not 4 divides 2 * x", "x", "2!v0"}, {"2 divides x iff true", "x", "2|v0; 2!v0 = 2"}, {"some x x . x < 1", "x x", "0<-v1+1; some v1 2; some v0 3"},
	} {
		side{l.text, l.made}.holds(t)
		if names := lower.Names(read(t, l.text)); !slices.Equal(names, strings.Fields(l.names)) {
			t.Errorf("Names of %q: %q", l.text, names)
		}
	}
}
