package verdict_test

import (
	"testing"

	"riddle/api"
	"riddle/zint"
)

func TestP214Examples(t *testing.T) {
	got := of(find, read(t, "some x y . 3 * x + 5 * y = 1 and x > 0")).ask()
	if got.e != api.OK || len(got.list) != 2 || zint.Sign(got.list[0]) <= 0 || tellNumber(zint.Add(zint.Mul(n(3), got.list[0]), zint.Mul(n(5), got.list[1]))) != "1" {
		t.Errorf("%s", got)
	}
	askAll(t, []row{{find, "some x. x < 0 and x > 0", "", "E201"}, {find, "true", "", "E200"}, {find, "some x. x = y + 1", "4", "5"}})
	// An N of 8 limbs or fewer is found, but for the greatest, which has a neighbour of 9.
	for _, word := range []string{"N1", "N2", "N3", "N7", "M8", "0", "77"} {
		of(find, read(t, "some x . x = "+word)).wants(t, tellNumbers(numbers(t, word)))
	}
	for _, word := range []string{"N8", "N9", "M9", "N20"} {
		of(find, read(t, "some x . x = "+word)).refuses(t, api.ErrLimbs)
	}
}

// The values stand in the order of the leading names, which may be of several quantifiers, one behind the other.
func TestP214Names(t *testing.T) {
	askAll(t, []row{
		{find, "some x y . x > y and y > 0", "", "2 1"}, {find, "some y x . x > y and y > 0", "", "1 2"}, {find, "some x . some y . x > y and y > 0", "", "2 1"}, {find, "some y . some x . x > y and y > 0", "", "1 2"}, {find, "some x y . some z . z > x and x > y and y > 0", "", "2 1 3"}, {find, "some z . some x y . z > x and x > y and y > 0", "", "3 2 1"},
		{find, "some b a . a = 3 and b = 4", "", "4 3"}, {find, "some a b . a = 3 and b = 4", "", "3 4"}, {find, "some x . x < 0", "", "-1"}, {find, "some x . x = 0", "", "0"}, {find, "some x . 7 divides x + 3", "", "-3"},
		// The same name several times: the last one is what the formula means, of the others any number will do.
		{find, "some x x . x = 5", "", "0 5"}, {find, "some x . some x . x = 5", "", "0 5"}, {find, "some x x x . x = 5", "", "0 0 5"}, {find, "some x y x . x = 5 and y = x + 1", "", "0 6 5"}, {find, "some y x . some y . x = 5 and y = x + 1", "", "0 5 6"},
		// Names that nothing hangs on.
		{find, "some x . true", "", "0"}, {find, "some x y z . y = 2", "", "0 2 0"}, {find, "some x . false", "", "E201"}, {find, "some x . x = x", "", "0"}, {find, "some x . 1 < 2 and y < y + 1", "9", "0"},
	})
}

// Leading are the quantifiers that the text has one behind the other: what is made of the formula may have more of them.
func TestP214Leading(t *testing.T) {
	askAll(t, []row{
		{find, "some x . not not (some y . y = 3 and x = y + 1)", "", "4"}, {find, "some x . (some y . y = 3 and x = y + 1) and true", "", "4"}, {find, "some x . not all y . y != 3 or x != y + 1", "", "4"}, {find, "some x . false or (some y z . y = 3 and x = y + z and z = 2)", "", "5"}, {find, "some x . true implies (some y . y = 3 and x = y + 1)", "", "4"},
		{find, "some x . some y . not not (some z . z = 3 and x = y and y = z + 1)", "", "4 4"}, {find, "some x . all y . y < x or y >= 7", "", "7"}, {find, "some x . (all y . y < 3 or x <= y) and x > 2", "", "3"}, {find, "some x . all y . some z . x + y = z + y and z = 3", "", "3"}, {find, "some x . all y . y < x", "", "E201"},
		// Behind them stands what has quantifiers of its own, also of the same names.
		{find, "some x . x > 4 and some x . x = 9", "", "5"}, {find, "some x . x = 4 and (some y . y > x) and some y . y < x", "", "4"}, {find, "some x . x > 3 and not some y . x = 2 * y", "", "5"},
	})
}

// Without a leading `some` there is no witness, whatever is made of the formula, and whatever values come with it.
func TestP214Shape(t *testing.T) {
	for _, text := range []string{
		"true", "false", "x < 1", "all x . x < 1", "not all x . x < 1", "not not (some x . x < 1)", "(some x . x < 1) and true", "(some x . x < 1) or false", "true implies (some x . x < 1)", "(some x . x < 1) iff true", "3 divides x", "all x . some y . x < y", "x <= N9",
	} {
		for given := range 3 {
			of(find, read(t, text), smalls(1, 2)[:given]...).refuses(t, api.ErrShape)
		}
	}
	for kind := api.TreeLt; kind <= api.TreeGt; kind++ {
		of(find, node(kind, v("x"), v("x"))).refuses(t, api.ErrShape)
	}
	of(find, idle(api.MaxNodes+1)).refuses(t, api.ErrShape)
	of(find, and(idle(api.MaxNodes+1), some(yes(), "x"))).refuses(t, api.ErrShape)
}

// Values for the free names, in their order; those of leading names are looked for.
func TestP214Values(t *testing.T) {
	askAll(t, []row{
		{find, "some x . z < x and x < y", "5 3", "4"}, {find, "some x . z < x and x < y", "3 5", "E201"}, {find, "some x . x = y + 1 and z < a", "1 7 2", "E201"}, {find, "some x . x = y + 1 and z < a", "2 7 1", "8"}, {find, "some x . x = y + 1 and z < a", "2 7 3", "E201"}, {find, "some x . x > y", "-5", "-4"}, {find, "some x . x = y", "N7", tellNumbers(numbers(t, "N7"))}, {find, "some x . x + y = 0", "M8", tellNumbers(numbers(t, "-M8"))},
		{find, "some x . 2 * x = y", "7", "E201"}, {find, "some x . 2 * x = y", "8", "4"}, {find, "some x y . x + y = a and x - y = b", "7 3", "5 2"}, {find, "some x . x = X + X_", "1 2", "3"},
		{find, "some x . x = y + 1", "", "E170"}, {find, "some x . x = y + 1", "1 2", "E170"}, {find, "some x . x = 1", "1", "E170"}, {find, "some x . x = x and y = y", "", "E170"}, {find, "some x . x = x and y = y", "1", "0"}, {find, "some x . y = y or y < z", "1", "E170"}, {find, "some x . x <= N9", "1", "E170"}, {find, "some x . x <= N9 + y", "", "E170"}, {find, "some x . x <= N9 + y", "1", "E71"},
		// A name that leads and is free elsewhere can't be; one that is bound within and free behind can.
		{find, "some x . x = 1 and (some y . y = x) and y = 7", "7", "1"}, {find, "some x . x = 1 and (some y . y = x) and y = 7", "8", "E201"},
	})
	raw := func(neg bool, limbs ...uint32) api.Int { return api.Int{Neg: neg, Mag: limbs} }
	of(find, read(t, "some x . x = y + z"), raw(true, 0, 0), raw(false, 5, 0)).wants(t, "5")
	of(find, read(t, "some x . x = y + z"), raw(true, 2, 0), raw(true)).wants(t, "-2")
	of(find, some(and(idle(api.MaxNodes+1), below1("y")), "x")).refuses(t, api.ErrArity)
	of(find, some(and(idle(api.MaxNodes+1), below1("y")), "x"), small(0)).refuses(t, api.ErrNodes)
}
