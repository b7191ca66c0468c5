package subst_test

import (
	"testing"

	"riddle/api"
	"riddle/arena"
	"riddle/subst"
)

// No values, one, several: one behind the other, each in what came of those ahead.
func TestP122OneBehindTheOther(t *testing.T) {
	f := and(less(0, p(0, 1), p(1, -1)), or(div(2, 0, p(0, 1)), less(1, p(1, 1), p(2, 1))))
	one := and(y(-1, 3), less(1, p(1, 1), p(2, 1)))
	two := z(1, 3)
	makeAll(t, []making{
		itself(instance(), f), itself(instance(), never()), itself(instance(), always()), itself(instance(), x(1, 0)), itself(instance(), some(0, x(1, 0))),
		{instance(val(0, 3)), f, one, of(y(-1, 3), one)},
		{instance(val(0, 3), val(1, 2)), f, two, of(y(-1, 3), one, two)},
		{instance(val(0, 3), val(1, 2), val(2, -2)), f, always(), of(y(-1, 3), one, two)},
		{instance(val(0, 3), val(1, 2), val(2, -3)), f, never(), of(y(-1, 3), one, two)},
		// Another order makes other nodes on the way.
		{instance(val(1, 2), val(0, 3)), f, two, of(x(1, -2), two, or(div(2, 0, p(0, 1)), two), and(x(1, -2), or(div(2, 0, p(0, 1)), two)))},
		{instance(val(2, 5), val(0, 9)), f, and(y(-1, 9), y(1, 6)), of(y(1, 6), or(div(2, 0, p(0, 1)), y(1, 6)), and(less(0, p(0, 1), p(1, -1)), or(div(2, 0, p(0, 1)), y(1, 6))), y(-1, 9), and(y(-1, 9), y(1, 6)))},
		{instance(val(0, 5)), some(1, less(0, p(0, 1), p(1, -1))), some(1, y(-1, 5)), of(y(-1, 5), some(1, y(-1, 5)))},
		{instance(val(1, 9), val(0, 5), val(1, 7)), some(1, less(0, p(0, 1), p(1, -1))), some(1, y(-1, 5)), of(y(-1, 5), some(1, y(-1, 5)))},
		{instance(val(least, 2), val(most, -3)), less(1, p(least, 1), p(most, 1)), never(), of(less(3, p(most, 1)))},
	})
}

// Of several values of a variable the first one counts; those of variables that are not free don't matter.
func TestP122TheFirstCounts(t *testing.T) {
	f := less(0, p(0, 1), p(1, 1))
	makeAll(t, []making{
		{instance(val(0, 3), val(0, 4)), f, y(1, 3), of(y(1, 3))},
		{instance(val(0, 3), val(0, 3)), f, y(1, 3), of(y(1, 3))},
		{instance(val(0, 4), val(0, 3), val(0, 9)), f, y(1, 4), of(y(1, 4))},
		{instance(val(0, 3), val(1, -3), val(0, 4), val(1, 0)), f, never(), of(y(1, 3))},
		{instance(val(1, -2), val(0, 3), val(1, -9)), f, always(), of(x(1, -2))},
		itself(instance(val(2, 3), val(-1, 0), val(most, 1)), f),
		{instance(val(2, 3), val(0, 5), val(3, 3)), f, y(1, 5), of(y(1, 5))},
		itself(instance(val(0, 3)), some(0, f)), itself(instance(val(0, 3), val(1, 3)), all(1, some(0, f))),
		// The bound one stays; the free one of the same number goes.
		{instance(val(0, 3)), and(f, some(0, x(1, 0))), and(y(1, 3), some(0, x(1, 0))), of(y(1, 3), and(y(1, 3), some(0, x(1, 0))))},
		// A variable that was put away by what came ahead is not free any more.
		{instance(val(0, -3), val(1, 5)), and(x(1, 0), y(1, 0)), never(), nil},
		{instance(val(0, 3), val(1, 5)), or(x(1, 0), y(1, 0)), always(), nil},
	})
}

// Great numbers, ones below 0, and ones that don't stand as they should.
func TestP122Numbers(t *testing.T) {
	f := less(0, p(0, 2), p(1, 1))
	k := api.Int{Mag: []uint32{0, 0, 0, 0, 0, 0, 0, 1 << 31}}
	twice := api.Int{Mag: []uint32{0, 0, 0, 0, 0, 0, 0, 1 << 30}}
	makeAll(t, []making{
		{instance(api.Value{Var: 1, N: k}), f, bigLess(twice, p(0, 1)), of(bigLess(twice, p(0, 1)))},
		{instance(api.Value{Var: 1, N: opposite(k)}), f, bigLess(opposite(twice), p(0, 1)), of(bigLess(opposite(twice), p(0, 1)))},
		{instance(api.Value{Var: 0, N: twice}), f, bigLess(k, p(1, 1)), of(bigLess(k, p(1, 1)))},
		{instance(api.Value{Var: 0, N: opposite(twice)}, api.Value{Var: 1, N: k}), f, never(), of(bigLess(opposite(k), p(1, 1)))},
		{instance(api.Value{Var: 0, N: widest(40)}), x(1, 0), always(), nil},
		{instance(api.Value{Var: 0, N: opposite(widest(40))}), x(1, 0), never(), nil},
		{instance(api.Value{Var: 0, N: wide(40)}), div(2, 0, p(0, 1)), always(), nil},
		{instance(api.Value{Var: 0, N: widest(40)}), div(2, 0, p(0, 1)), never(), nil},
		{instance(api.Value{Var: 0, N: api.Int{Neg: true, Mag: []uint32{7, 0, 0, 0, 0, 0, 0, 0, 0, 0}}}), f, y(1, -14), of(y(1, -14))},
		{instance(api.Value{Var: 0, N: api.Int{Neg: true, Mag: []uint32{0, 0}}}), f, y(1, 0), of(y(1, 0))},
		{instance(api.Value{Var: 0, N: api.Int{Neg: true}}), f, y(1, 0), of(y(1, 0))},
	})
}

// An error ends it: the values behind are not looked at, and what was made on the way stays.
func TestP122AnErrorEndsIt(t *testing.T) {
	f := less(0, p(0, 1), p(1, 1), p(2, 1))
	a := arena.New(meterOf(t, 100, 2))
	id := f(a)
	got, e := subst.Instance(a, id, []api.Value{val(0, 1), {Var: 1, N: wide(3)}, val(2, 2), val(1, 4)})
	if got != 0 || e != api.ErrLimbs || a.Len() != 4 || less(1, p(1, 1), p(2, 1))(a) != 3 || a.Meter().Over() != e {
		t.Errorf("a great number: %d, %v, in\n%s", got, e, tellArena(a))
	}
	a = arena.New(meterOf(t, 2, 2))
	id = f(a)
	got, e = subst.Instance(a, id, []api.Value{val(9, 1), val(0, 1), val(0, 2), val(1, 1), val(2, 2)})
	if got != 0 || e != api.ErrNodes || a.Len() != 4 || less(1, p(1, 1), p(2, 1))(a) != 3 || a.Meter().Over() != e {
		t.Errorf("no nodes left: %d, %v, in\n%s", got, e, tellArena(a))
	}
	// What is found there needs no node; then a constant comes.
	if got, e := subst.Instance(a, 3, []api.Value{val(9, 1), val(3, 1)}); got != 3 || e != api.OK {
		t.Errorf("values of none: %d, %v", got, e)
	}
	if got, e := subst.Instance(a, id, []api.Value{val(0, 1)}); got != 3 || e != api.OK {
		t.Errorf("what is there: %d, %v", got, e)
	}
}
