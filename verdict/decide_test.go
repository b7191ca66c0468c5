package verdict_test

import (
	"testing"

	"riddle/api"
)

// The chapter's examples, and the document's.
func TestP212Examples(t *testing.T) {
	askAll(t, []row{
		{decide, "all x. some y. 2*y = x or 2*y = x + 1", "", "true"}, {decide, "some x. 2*x = 1", "", "false"}, {decide, "x < 1", "", "E210"}, {decide, "some x . 2 * x = 3", "", "false"},
		{decide, "some y. x = 3*y", "", "E210"}, {decide, "some x . x > 5", "", "true"}, {decide, "all x . some y . x < y", "", "true"},
	})
}

// Sentences that are known to be true, and that are not; what each says, its opposite doesn't.
func TestP212Sentences(t *testing.T) {
	for text, want := range map[string]string{
		"true": "true", "false": "false", "1 < 2": "true", "2 < 1": "false", "3 divides 9": "true", "3 divides 10": "false", "not 2 divides 1": "true", "true iff false": "false", "false implies 1 = 2": "true",
		// Order: no least one, no greatest one, none between two neighbours.
		"all x . some y . x < y": "true", "some y . all x . x < y": "false", "all x . some y . y < x": "true", "some x . all y . x <= y": "false", "all x y . x < y implies some z . x < z and z < y": "false", "all x y . x + 1 < y implies some z . x < z and z < y": "true", "all x . all y . x < y implies some z . x <= z and z < y": "true",
		"all x y z . x < y and y < z implies x < z": "true", "all x y . x < y or y < x": "false", "all x y . x < y or x = y or y < x": "true", "all x y . x <= y and y <= x iff x = y": "true",
		// Divisors.
		"all x . 2 divides x or 2 divides x + 1": "true", "some x . 2 divides x and 2 divides x + 1": "false", "all x . 3 divides x or 3 divides x + 1": "false", "all x . 6 divides x iff 2 divides x and 3 divides x": "true", "some x . 4 divides x + 1 and 6 divides x": "false", "some x . 4 divides x + 2 and 6 divides x": "true",
		"all x . (some y . x = 2 * y) or some y . x = 2 * y + 1": "true", "all x . (some y . x = 2 * y) iff 2 divides x": "true", "all x . 4 divides x implies some y . x = 2 * y and 2 divides y": "true",
		// Sums.
		"some x y . 3 * x + 5 * y = 1": "true", "some x y . 2 * x + 4 * y = 1": "false", "all z . some x y . 3 * x + 5 * y = z": "true", "all z . z > 7 implies some x y . x >= 0 and y >= 0 and 3 * x + 5 * y = z": "true", "all z . z > 6 implies some x y . x >= 0 and y >= 0 and 3 * x + 5 * y = z": "false",
		"all x y . x + y = y + x": "true", "all x . some y . x + y = 0": "true", "all x y z . x < y implies x + z < y + z": "true", "all x y . 2 * x < 2 * y + 1 iff x <= y": "true",
		// Names that come again, that bind nothing, and quantifiers at several places.
		"some x . x < 1 and some x . x > 1": "true", "some x x . x = 3": "true", "all x . some x . x < 1": "true", "some x . all x . x < 1": "false", "all x . true": "true", "some x . false": "false", "(all x . x < 1) or some x . x < 1": "true", "(some x . x = 1) and not (some x . 2 * x = 1)": "true",
	} {
		u := read(t, text)
		of(decide, u).wants(t, want)
		of(decide, not(not(u))).wants(t, want)
		other := map[string]string{"true": "false", "false": "true"}[want]
		of(decide, not(u)).wants(t, other)
		// A sentence has no free names: Eval of no values is the same, and so is what Eliminate answers, but for its steps.
		of(eval, u).wants(t, want)
		if got := of(eliminate, u).ask(); got.e != api.OK || tellFormula(got.tree) != want {
			t.Errorf("Eliminate of %q: %s", text, got)
		}
	}
}

// Open is what has a free name, though no variable be free in what is made of it; and it is refused ahead of the run.
func TestP212Open(t *testing.T) {
	askAll(t, []row{
		{decide, "x < 1", "", "E210"}, {decide, "x = x", "", "E210"}, {decide, "x < x + 1 or true", "", "E210"}, {decide, "0 * x < 1", "", "E210"}, {decide, "false and x < 1", "", "E210"}, {decide, "some y . y < x", "", "E210"}, {decide, "x < 1 and some x . x < 1", "", "E210"}, {decide, "some x . x < 1 and some y . z < 1", "", "E210"}, {decide, "2 divides 2 * x", "", "E210"},
		{decide, "(some x . x < 1) and x < 1", "", "E210"}, {decide, "(all x . true) or (all y . x = x)", "", "E210"}, {decide, "x <= N9", "", "E210"}, {decide, "some x . x <= N9", "", "E71"},
	})
	of(decide, and(idle(api.MaxNodes+1), below1("x"))).refuses(t, api.ErrOpen)
	of(decide, idle(api.MaxNodes+1)).refuses(t, api.ErrNodes)
}

func TestP213Examples(t *testing.T) {
	askAll(t, []row{
		{eval, "some y. x = 3*y", "6", "true"}, {eval, "some y. x = 3*y", "7", "false"}, {eval, "some y. x = 3*y", "", "E170"}, {eval, "x < y", "1 2", "true"}, {eval, "x < y", "2 1", "false"},
	})
}

// Values stand for the free names in their order, byte by byte, whatever the order of the text; a name that is bound elsewhere
// is free where it isn't.
func TestP213Values(t *testing.T) {
	askAll(t, []row{
		{eval, "y = 3 and x = 4", "4 3", "true"}, {eval, "y = 3 and x = 4", "3 4", "false"}, {eval, "b < B and B = 5", "5 4", "true"}, {eval, "b < B and B = 5", "4 5", "false"}, {eval, "x10 = 1 and x2 = 2 and x9 = 3 and X = 4", "4 1 2 3", "true"}, {eval, "x_ = 1 and xa = 2 and xA = 3", "3 1 2", "true"},
		{eval, "x = 5 and some x . x = 6", "5", "true"}, {eval, "(some x . x = y and y = 6) and x = 5", "5 6", "true"}, {eval, "(some x . x = y and y = 6) and x = 5", "6 5", "false"}, {eval, "some x . x = y and some y . y = x + z and z = 2", "1 2", "true"}, {eval, "all x . x > y implies x > z", "5 3", "true"}, {eval, "all x . x > y implies x > z", "3 5", "false"},
		// Below 0, 0, and far from 0.
		{eval, "x < 0", "-1", "true"}, {eval, "x < 0", "0", "false"}, {eval, "x = 0", "0", "true"}, {eval, "2 divides x", "-3", "false"}, {eval, "2 divides x", "-4", "true"}, {eval, "some y . x = 3 * y", "-3", "true"}, {eval, "x + y = 0", "-7 7", "true"}, {eval, "all y . x < y implies -5 < y", "-6", "false"}, {eval, "all y . x < y implies -5 < y", "-5", "true"},
		{eval, "x < N2", "M2", "true"}, {eval, "x < N2", "N2", "false"}, {eval, "x < N8", "M8", "true"}, {eval, "x = y", "M8 M8", "true"}, {eval, "x = y", "-M8 -N8", "false"}, {eval, "15 divides x", "N8", "true"}, {eval, "x < 1", "N100", "false"}, {eval, "x < 1", "-N100", "true"}, {eval, "7 divides x", "-N100", "false"},
		// No free names.
		{eval, "true", "", "true"}, {eval, "some x . 2 * x = 1", "", "false"},
	})
	// Numbers that do not stand as they should are those that they say.
	raw := func(neg bool, limbs ...uint32) api.Int { return api.Int{Neg: neg, Mag: limbs} }
	for _, l := range []struct {
		text string
		vals []api.Int
	}{
		{"x = 0", []api.Int{raw(true)}}, {"x = 0", []api.Int{raw(true, 0, 0)}}, {"x = 0", []api.Int{raw(false, make([]uint32, 20)...)}}, {"x = 5", []api.Int{raw(false, append([]uint32{5}, make([]uint32, 20)...)...)}}, {"x = -5 and y = 7", []api.Int{raw(true, 5, 0), raw(false, 7, 0)}}, {"not y = x and x = 0", []api.Int{raw(true, 0), raw(true, 1)}},
	} {
		of(eval, read(t, l.text), l.vals...).wants(t, "true")
		of(eval, not(read(t, l.text)), l.vals...).wants(t, "false")
		of(eval, some(read(t, l.text), "z", "q"), l.vals...).wants(t, "true")
	}
}

// As many values as free names, though what is made of the formula has fewer free variables, or none.
func TestP213Arity(t *testing.T) {
	for text, names := range map[string]int{
		"true": 0, "some x . x < 1": 0, "x < 1": 1, "x = x": 1, "0 * x < y": 2, "false and x < 1": 1, "x < y and z < x": 3, "x < y or some x z . x < z": 2, "x < 1 and y < 2 or true": 2, "all x . y < x and x < y and y < z": 2, "x <= N9": 1,
	} {
		u := read(t, text)
		for given := range 6 {
			q := of(eval, u, numbers(t, "1 2 3 4 5")[:min(given, 5)]...)
			if given != names {
				q.refuses(t, api.ErrArity)
			} else if got := q.ask(); got.e != api.OK && (text != "x <= N9" || got.e != api.ErrLimbs) {
				t.Errorf("%s: %s", q, got)
			}
		}
	}
	of(eval, and(idle(api.MaxNodes+1), below1("x"))).refuses(t, api.ErrArity)
	of(eval, and(idle(api.MaxNodes+1), below1("x")), smalls(1, 2)...).refuses(t, api.ErrArity)
	of(eval, and(idle(api.MaxNodes+1), below1("x")), small(1)).refuses(t, api.ErrNodes)
}
