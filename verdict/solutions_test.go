package verdict_test

import (
	"testing"

	"riddle/api"
	"riddle/periods"
)

func TestP215Examples(t *testing.T) {
	askAll(t, []row{{solutions, "some y. x = 3*y", "", "by 3: 0"}, {solutions, "x < y", "", "E171"}})
}

// Formulas with quantifiers and without, of whatever name; what has no solution, what has all.
func TestP215Sets(t *testing.T) {
	askAll(t, []row{
		{solutions, "x < 4", "", "by 1: 0; from 4:"}, {solutions, "x > 4", "", "by 1:; from 5: 0"}, {solutions, "v0 >= -4", "", "by 1:; from -4: 0"}, {solutions, "z1 = 7", "", "by 1:; from 7: 0; from 8:"}, {solutions, "x != 7", "", "by 1: 0; from 7:; from 8: 0"}, {solutions, "4 divides x + 1", "", "by 4: 3"}, {solutions, "not 3 divides x", "", "by 3: 1 2"}, {solutions, "x > 3 and 2 divides x", "", "by 2:; from 4: 0"}, {solutions, "-1 < x and x < N9", "", "E71"},
		{solutions, "x = x", "", "by 1: 0"}, {solutions, "x != x", "", "by 1:"}, {solutions, "x < 1 and x > 5", "", "by 1:"}, {solutions, "0 * x = 0", "", "by 1: 0"}, {solutions, "2 divides x and 2 divides x + 1", "", "by 2:"}, {solutions, "2 divides x and not 2 divides x", "", "by 1:"}, {solutions, "true or x < 1", "", "by 1: 0"},
		{solutions, "some y . x = 2 * y and y > 1", "", "by 2:; from 3: 0"}, {solutions, "all y . y < x or y > 7", "", "by 1:; from 8: 0"}, {solutions, "some x . y < x and x < 5", "", "by 1: 0; from 4:"}, {solutions, "x < 3 and some x . x < 1", "", "by 1: 0; from 3:"}, {solutions, "some y z . 4 * y + 6 * z = x", "", "by 6: 0 2 4"}, {solutions, "some y . y = y and x < 3", "", "by 1: 0; from 3:"}, {solutions, "(some y . x = 2 * y) or some z . x = 3 * z", "", "by 6: 0 2 3 4"},
	})
}

// Just one free name: none is too few, two are too many, whatever is made of them; and it is refused ahead of the run.
func TestP215Free(t *testing.T) {
	for _, text := range []string{"true", "false", "some x . x < 1", "all x y . x < y", "x < y", "x = x and y = y", "x < 1 or 0 * y = 0", "x < 1 and some y . z < y", "x < y + z", "some x . y < z", "some x . x <= N9", "x <= N9 + y", "5000 divides x + y"} {
		of(solutions, read(t, text)).refuses(t, api.ErrFree)
	}
	of(solutions, idle(api.MaxNodes+1)).refuses(t, api.ErrFree)
	of(solutions, and(idle(api.MaxNodes+1), below1("x"))).refuses(t, api.ErrNodes)
}

func TestP215Period(t *testing.T) {
	askAll(t, []row{
		{solutions, "4097 divides x", "", "E180"}, {solutions, "not 5000 divides x", "", "E180"}, {solutions, "64 divides x and 81 divides x", "", "E180"}, {solutions, "64 divides x or 81 divides x + 1", "", "E180"}, {solutions, "N8 divides x", "", "E180"}, {solutions, "some y . 5000 * y = x", "", "E70"}, {solutions, "x < 1 and (2 divides x or 4099 divides x)", "", "E180"},
		// What is made of it has no such divisor.
		{solutions, "5000 divides x and 2 divides 1", "", "by 1:"}, {solutions, "5000 divides 2500 * x", "", "by 2: 0"}, {solutions, "5000 divides x or x = x", "", "by 1: 0"}, {solutions, "8192 divides 2 * x and 8192 divides 1", "", "by 1:"},
	})
	for _, text := range []string{"4096 divides x", "64 divides x + 1 and 64 divides x", "64 divides x and 63 divides x", "8192 divides 2 * x + 2"} {
		if got := of(solutions, read(t, text)).ask(); got.e != api.OK || got.set.Period() > api.MaxPeriod || len(got.set.Cuts()) > 0 {
			t.Errorf("%s: %s", text, short(got.String()))
		}
	}
	long := of(solutions, read(t, "4096 divides x + 5")).ask()
	class, _ := periods.Class(n(4096), small(-5))
	if long.e != api.OK || !long.set.Same(class) {
		t.Errorf("%s", short(long.String()))
	}
}
