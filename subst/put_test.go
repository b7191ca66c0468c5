package subst_test

import (
	"testing"

	"riddle/api"
	"riddle/arena"
	"riddle/subst"
)

// Of every kind of node the same with the term in the variable's place.
func TestP121EveryKind(t *testing.T) {
	e, f := div(4, 1, p(0, 1), p(1, 2)), not(4, 1, p(0, 1), p(1, 2))
	long := less(5, p(-9, 2), p(0, -3), p(most, 1))
	makeAll(t, []making{
		{put(0, sum(7, p(1, 2))), x(1, 0), y(1, 4), of(y(1, 4))},
		{put(0, sum(1, p(2, 3))), long, less(2, p(-9, 2), p(2, -9), p(most, 1)), of(less(2, p(-9, 2), p(2, -9), p(most, 1)))},
		{put(-9, sum(0, p(most, -1))), long, less(5, p(0, -3), p(most, -1)), of(less(5, p(0, -3), p(most, -1)))},
		{put(most, sum(-5, p(0, 3))), long, less(0, p(-9, 1)), of(less(0, p(-9, 1)))},
		{put(0, sum(1, p(2, 1))), e, div(4, 2, p(1, 2), p(2, 1)), of(div(4, 2, p(1, 2), p(2, 1)))},
		{put(1, sum(0, p(0, 2))), e, div(4, 1, p(0, 1)), of(div(4, 1, p(0, 1)))},
		{put(0, sum(1, p(2, 1))), f, not(4, 2, p(1, 2), p(2, 1)), of(not(4, 2, p(1, 2), p(2, 1)))},
		{put(0, sum(1, p(1, 2))), e, never(), nil},
		{put(0, sum(1, p(1, 2))), f, always(), nil},
		{put(0, sum(-1, p(1, 2))), e, always(), nil},
		{put(0, sum(-1, p(1, 2))), f, never(), nil},
		{put(0, sum(3)), and(x(1, -1), y(1, 0)), y(1, 0), nil},
		{put(0, sum(0, p(2, 1))), and(x(1, -1), y(1, 0)), and(z(1, -1), y(1, 0)), of(z(1, -1), and(z(1, -1), y(1, 0)))},
		{put(0, sum(0, p(2, 1))), or(x(1, -1), y(1, 0)), or(z(1, -1), y(1, 0)), of(z(1, -1), or(z(1, -1), y(1, 0)))},
		{put(0, sum(0, p(2, 1))), some(1, x(1, -1)), some(1, z(1, -1)), of(z(1, -1), some(1, z(1, -1)))},
		{put(0, sum(0, p(2, 1))), all(1, x(1, -1)), all(1, z(1, -1)), of(z(1, -1), all(1, z(1, -1)))},
		{put(0, sum(3)), some(most, x(1, 0)), some(most, always()), of(some(most, always()))},
		{put(0, sum(-3)), all(least, x(1, 0)), all(least, never()), of(all(least, never()))},
		// Within each other: of a Some an All, of an And an Or, of both a quantifier.
		{put(0, sum(0, p(2, 1))), some(1, all(3, and(x(1, 0), or(y(1, 0), x(-1, 9))))), some(1, all(3, and(z(1, 0), or(y(1, 0), z(-1, 9))))),
			of(z(1, 0), z(-1, 9), or(y(1, 0), z(-1, 9)), and(z(1, 0), or(y(1, 0), z(-1, 9))), all(3, and(z(1, 0), or(y(1, 0), z(-1, 9)))), some(1, all(3, and(z(1, 0), or(y(1, 0), z(-1, 9))))))},
		{put(0, sum(0, p(2, 1))), and(some(1, x(1, 0)), all(1, or(x(1, 4), y(1, 0)))), and(some(1, z(1, 0)), all(1, or(z(1, 4), y(1, 0)))),
			of(z(1, 0), some(1, z(1, 0)), z(1, 4), or(z(1, 4), y(1, 0)), all(1, or(z(1, 4), y(1, 0))), and(some(1, z(1, 0)), all(1, or(z(1, 4), y(1, 0)))))},
	})
}

// Where the variable is not free the formula is itself, whatever the term is, and however it is made: also where a
// quantifier binds a variable of the term, and where something could be made simpler.
func TestP121NotFree(t *testing.T) {
	rows := []form{never(), always(), y(1, 0), div(3, 1, p(1, 1)), not(3, 1, p(1, 1)), and(y(1, 0), y(1, -3)), or(y(1, 0), always()), some(0, x(1, 0)), all(0, and(x(1, 0), y(1, 0))), some(2, y(1, 0)), all(1, z(1, 0)), some(1, never()),
		some(0, all(2, x(1, 0))), all(1, some(0, and(x(1, 0), less(0, p(0, 1), p(1, 1))))), some(0, some(0, x(1, 0))), and(some(0, x(1, 0)), all(0, x(1, 0)), and(y(1, 0), and(always(), z(1, 0)))), some(0, or(x(1, 0), some(1, x(1, 4))))}
	var makings []making
	for _, f := range rows {
		for _, u := range []api.Term{sum(0), sum(7), sum(0, p(0, 1)), sum(3, p(1, 1)), sum(0, p(2, 1)), sum(1, p(0, 1), p(1, -1), p(2, 5)), {K: widest(9)}, {Parts: []api.Part{big(1, widest(30))}}} {
			makings = append(makings, itself(put(0, u), f), itself(put(most, u), f), itself(put(least, u), f), itself(put(-1, u), f))
		}
	}
	makeAll(t, makings)
	// Bound variables have numbers, too.
	makeAll(t, []making{itself(put(1, sum(3)), some(1, y(1, 0))), itself(put(1, sum(0, p(1, 1))), all(1, some(0, and(y(1, 0), x(1, 0)))))})
}

// What is bound in one part and free in another is put in at the free places alone.
func TestP121BoundAndFree(t *testing.T) {
	own := some(0, and(x(1, 0), y(1, 0)))
	makeAll(t, []making{
		{put(0, sum(5, p(2, 1))), and(x(1, 0), own), and(z(1, 5), own), of(z(1, 5), and(z(1, 5), own))},
		{put(0, sum(5, p(2, 1))), or(own, x(1, 0)), or(own, z(1, 5)), of(z(1, 5), or(own, z(1, 5)))},
		{put(0, sum(5, p(2, 1))), all(1, or(x(1, 0), all(0, x(1, 0)))), all(1, or(z(1, 5), all(0, x(1, 0)))), of(z(1, 5), or(z(1, 5), all(0, x(1, 0))), all(1, or(z(1, 5), all(0, x(1, 0)))))},
		// The same atom stands at both places; the same And does.
		{put(0, sum(5, p(2, 1))), or(some(0, x(1, 0)), some(1, x(1, 0))), or(some(0, x(1, 0)), some(1, z(1, 5))), of(z(1, 5), some(1, z(1, 5)), or(some(0, x(1, 0)), some(1, z(1, 5))))},
		{put(0, sum(5, p(2, 1))), or(some(1, and(x(1, 0), y(1, 0))), own), or(some(1, and(z(1, 5), y(1, 0))), own),
			of(z(1, 5), and(z(1, 5), y(1, 0)), some(1, and(z(1, 5), y(1, 0))), or(some(1, and(z(1, 5), y(1, 0))), own))},
	})
}

// The term may have the variable itself, also where a quantifier binds it elsewhere.
func TestP121TheVariableItself(t *testing.T) {
	makeAll(t, []making{
		itself(put(0, sum(0, p(0, 1))), x(1, 0)), itself(put(0, sum(0, p(0, 1))), and(x(1, 0), y(1, 0))), itself(put(0, sum(0, p(0, 1))), some(1, or(x(1, 0), y(1, 0)))),
		{put(0, sum(2, p(0, 1))), x(1, 0), x(1, 2), of(x(1, 2))},
		{put(0, sum(0, p(0, -1))), and(x(1, 0), x(-1, 9)), and(x(-1, 0), x(1, 9)), of(x(-1, 0), x(1, 9), and(x(-1, 0), x(1, 9)))},
		{put(0, sum(0, p(0, 3))), div(6, 1, p(0, 1)), never(), nil},
		{put(0, sum(1, p(0, 2))), div(6, 5, p(0, 1)), div(3, 0, p(0, 1)), of(div(3, 0, p(0, 1)))},
		{put(0, sum(2, p(0, 1), p(1, 1))), and(x(1, 0), some(0, x(1, 0))), and(less(2, p(0, 1), p(1, 1)), some(0, x(1, 0))), of(less(2, p(0, 1), p(1, 1)), and(less(2, p(0, 1), p(1, 1)), some(0, x(1, 0))))},
		{put(0, sum(2, p(0, 1))), or(all(1, x(1, 0)), all(0, some(1, x(1, 0)))), or(all(1, x(1, 2)), all(0, some(1, x(1, 0)))), of(x(1, 2), all(1, x(1, 2)), or(all(1, x(1, 2)), all(0, some(1, x(1, 0)))))},
		// What is put in is not gone through again.
		{put(0, sum(1, p(0, 1))), and(x(1, 0), x(-1, 7)), and(x(1, 1), x(-1, 6)), of(x(1, 1), x(-1, 6), and(x(1, 1), x(-1, 6)))},
	})
	// As it stands already, but for what simp.And leaves out.
	makeAll(t, []making{{put(0, sum(0, p(0, 1))), and(x(1, 0), x(1, -3)), x(1, -3), nil}, {put(0, sum(0, p(0, 1))), and(x(1, 0), always()), x(1, 0), nil}})
}

// Terms are taken for what they say, and have the variables that are left as they should stand.
func TestP121TermsThatDoNotStand(t *testing.T) {
	noughts := api.Term{Parts: []api.Part{{Var: 2, C: api.Int{Mag: []uint32{1, 0, 0}}}, {Var: 1, C: api.Int{Neg: true, Mag: []uint32{0, 0}}}}, K: api.Int{Neg: true, Mag: []uint32{5, 0}}}
	cancel := sum(-5, p(1, 4), p(2, -2), p(1, -4), p(2, 3), p(0, 7), p(0, -7))
	want := z(1, -5)
	for _, u := range []api.Term{noughts, cancel} {
		makeAll(t, []making{
			{put(0, u), x(1, 0), want, of(want)},
			{put(0, u), some(1, x(1, 0)), some(1, want), of(want, some(1, want))},
			{put(0, u), all(1, some(1, and(x(1, 0), y(1, 0)))), all(1, some(1, and(want, y(1, 0)))), of(want, and(want, y(1, 0)), some(1, and(want, y(1, 0))), all(1, some(1, and(want, y(1, 0)))))},
		})
		refuses(t, put(0, u), some(2, x(1, 0)), api.ErrBound)
	}
	// A constant, whose parts all cancel.
	makeAll(t, []making{{put(0, sum(-5, p(1, 4), p(1, -4), p(2, 0))), some(1, some(2, or(x(1, 0), y(1, 0)))), some(1, some(2, y(1, 0))), of(some(2, y(1, 0)), some(1, some(2, y(1, 0))))}})
}

// A quantifier that binds a variable of the term above a free place is ErrBound, however far above, and nothing is made.
func TestP121Caught(t *testing.T) {
	for _, u := range []api.Term{sum(0, p(1, 1)), sum(3, p(1, -2)), sum(0, p(0, 1), p(1, 1), p(2, 1)), sum(0, p(2, 1), p(1, 1)), {Parts: []api.Part{big(1, widest(9))}}} {
		for _, f := range []form{
			some(1, x(1, 0)), all(1, x(1, 0)), some(1, less(0, p(0, 1), p(1, 1))), all(1, div(3, 1, p(0, 1))), some(1, not(3, 1, p(0, 1))), some(1, some(3, x(1, 0))), some(3, some(1, x(1, 0))), some(1, and(y(1, 0), x(1, 0))), all(1, or(and(z(1, 0), x(1, 0)), y(1, 0))),
			and(y(1, 0), z(1, 0), some(1, x(1, 0))), and(x(1, 0), some(1, x(1, 0))), or(some(1, y(1, 0)), some(1, x(1, 0))), some(1, all(1, x(1, 0))), some(1, or(some(0, x(1, 0)), x(1, 0))), all(3, and(all(4, x(1, 0)), all(5, some(1, or(y(1, 0), all(6, x(1, 0))))))),
			// What is bound stands beside what is free, below one node.
			and(some(0, some(1, x(1, 0))), some(1, x(1, 0))), and(some(0, x(1, 0)), all(1, x(1, 0))),
		} {
			refuses(t, put(0, u), f, api.ErrBound)
		}
	}
	refuses(t, put(least, sum(0, p(most, 1))), some(most, less(0, p(least, 1))), api.ErrBound)
	refuses(t, put(most, sum(0, p(least, 1))), all(least, less(0, p(most, 1))), api.ErrBound)
}

// A quantifier that stands elsewhere catches nothing: beside the free places, below an atom's neighbour, above places at
// which the variable is bound, or where it binds none of the term's variables.
func TestP121NotCaught(t *testing.T) {
	u, want := sum(0, p(1, 1)), y(1, 0)
	makeAll(t, []making{
		{put(0, u), and(x(1, 0), some(1, y(1, 4))), and(want, some(1, y(1, 4))), of(want, and(want, some(1, y(1, 4))))},
		{put(0, u), some(2, x(1, 0)), some(2, want), of(want, some(2, want))},
		{put(0, u), some(0, some(1, x(1, 0))), some(0, some(1, x(1, 0))), nil},
		{put(0, u), and(x(1, 0), some(0, some(1, x(1, 0)))), and(want, some(0, some(1, x(1, 0)))), of(want, and(want, some(0, some(1, x(1, 0)))))},
		{put(0, u), and(x(1, 0), some(1, some(0, x(1, 0)))), and(want, some(1, some(0, x(1, 0)))), of(want, and(want, some(1, some(0, x(1, 0)))))},
		{put(0, u), all(2, or(x(1, 0), some(1, z(1, 0)))), all(2, or(want, some(1, z(1, 0)))), of(want, or(want, some(1, z(1, 0))), all(2, or(want, some(1, z(1, 0)))))},
		{put(0, u), or(some(2, x(1, 0)), some(0, all(1, x(1, 0)))), or(some(2, want), some(0, all(1, x(1, 0)))), of(want, some(2, want), or(some(2, want), some(0, all(1, x(1, 0)))))},
		// The term's own variable is the one that is bound elsewhere.
		{put(0, sum(1, p(0, 1))), or(some(2, x(1, 0)), some(0, all(1, x(1, 0)))), or(some(2, x(1, 1)), some(0, all(1, x(1, 0)))), of(x(1, 1), some(2, x(1, 1)), or(some(2, x(1, 1)), some(0, all(1, x(1, 0)))))},
	})
}

// ErrBound comes ahead of what the arena would refuse, and of what would be made on the way.
func TestP121CaughtAhead(t *testing.T) {
	f := and(x(1, 0), x(1, 5), some(1, x(1, 7)))
	for _, nodes := range []int{5, 6, 100} {
		a := arena.New(meterOf(t, nodes, 1))
		id := f(a)
		was := tellArena(a)
		for _, u := range []api.Term{sum(0, p(1, 1)), {Parts: []api.Part{p(1, 1)}, K: wide(2)}, {Parts: []api.Part{p(2, 1), big(1, wide(9))}}} {
			if got, e := subst.Put(a, id, 0, u); got != 0 || e != api.ErrBound || tellArena(a) != was {
				t.Errorf("with %d nodes: %d, %v, in\n%s", nodes, got, e, tellArena(a))
			}
		}
	}
}

// Kids come in the order of their numbers, each with all that hangs below it ahead of the next one. A node that is
// reached on several ways comes once; one in which the variable is not free comes nowhere.
func TestP121OrderOfMaking(t *testing.T) {
	u := sum(0, p(3, 1))
	w := func(c, k int) form { return less(k, p(3, c)) }
	makeAll(t, []making{
		{put(0, u), behind(of(x(1, 0), x(1, 1), x(-1, 9)), or(x(-1, 9), and(x(1, 0), y(1, 0)), and(x(1, 1), z(1, 0)))), or(w(-1, 9), and(w(1, 0), y(1, 0)), and(w(1, 1), z(1, 0))),
			of(w(-1, 9), w(1, 0), and(w(1, 0), y(1, 0)), w(1, 1), and(w(1, 1), z(1, 0)), or(w(-1, 9), and(w(1, 0), y(1, 0)), and(w(1, 1), z(1, 0))))},
		{put(0, u), behind(of(x(1, 3), x(1, 2), x(1, 1)), and(some(1, x(1, 1)), some(1, x(1, 2)), some(1, x(1, 3)))), and(some(1, w(1, 1)), some(1, w(1, 2)), some(1, w(1, 3))),
			of(w(1, 1), some(1, w(1, 1)), w(1, 2), some(1, w(1, 2)), w(1, 3), some(1, w(1, 3)), and(some(1, w(1, 1)), some(1, w(1, 2)), some(1, w(1, 3))))},
		{put(0, u), behind(of(some(1, x(1, 3)), some(1, x(1, 2))), and(some(1, x(1, 2)), some(1, x(1, 3)))), and(some(1, w(1, 2)), some(1, w(1, 3))),
			of(w(1, 3), some(1, w(1, 3)), w(1, 2), some(1, w(1, 2)), and(some(1, w(1, 2)), some(1, w(1, 3))))},
		// Shared: below two kids, and as a kid itself.
		{put(0, u), or(some(1, or(x(1, 0), y(1, 0))), all(1, or(x(1, 0), y(1, 0))), some(2, all(1, or(x(1, 0), y(1, 0))))), or(some(1, or(w(1, 0), y(1, 0))), all(1, or(w(1, 0), y(1, 0))), some(2, all(1, or(w(1, 0), y(1, 0))))),
			of(w(1, 0), or(w(1, 0), y(1, 0)), some(1, or(w(1, 0), y(1, 0))), all(1, or(w(1, 0), y(1, 0))), some(2, all(1, or(w(1, 0), y(1, 0)))), or(some(1, or(w(1, 0), y(1, 0))), all(1, or(w(1, 0), y(1, 0))), some(2, all(1, or(w(1, 0), y(1, 0))))))},
		// Not joined anew: below a quantifier stands what could be simpler, but has no x.
		{put(0, u), or(x(1, 0), some(2, and(y(1, 0), y(1, -3), always())), all(1, or(z(1, 0), z(-1, 9)))), or(w(1, 0), some(2, and(y(1, 0), y(1, -3), always())), all(1, or(z(1, 0), z(-1, 9)))),
			of(w(1, 0), or(w(1, 0), some(2, and(y(1, 0), y(1, -3), always())), all(1, or(z(1, 0), z(-1, 9)))))},
		{put(0, u), some(1, or(x(1, 0), and(or(y(1, 0), y(1, 3)), z(1, 0)))), some(1, or(w(1, 0), and(or(y(1, 0), y(1, 3)), z(1, 0)))),
			of(w(1, 0), or(w(1, 0), and(or(y(1, 0), y(1, 3)), z(1, 0))), some(1, or(w(1, 0), and(or(y(1, 0), y(1, 3)), z(1, 0)))))},
		// Kids of the same kind are spread, whether the variable is free in them or not.
		{put(0, u), and(x(1, 0), and(y(1, 0), z(1, 0))), and(w(1, 0), y(1, 0), z(1, 0)), of(w(1, 0), and(w(1, 0), y(1, 0), z(1, 0)))},
		{put(0, u), and(y(1, 0), and(x(1, 0), z(1, 0))), and(w(1, 0), y(1, 0), z(1, 0)), of(w(1, 0), and(w(1, 0), z(1, 0)), and(w(1, 0), y(1, 0), z(1, 0)))},
	})
}

// What comes of kids is joined as simp.And and simp.Or do; what they are joined of was made by then.
func TestP121Simpler(t *testing.T) {
	u := sum(0, p(1, 1))
	makeAll(t, []making{
		{put(0, u), and(x(1, 0), y(1, -3)), y(1, -3), of(y(1, 0))}, {put(0, u), or(x(1, 0), y(1, -3)), y(1, 0), of(y(1, 0))}, {put(0, u), and(x(1, 0), y(-1, 1)), never(), of(y(1, 0))}, {put(0, u), or(x(1, 0), y(-1, 1)), always(), of(y(1, 0))},
		{put(0, u), and(div(2, 0, p(0, 1)), not(2, 0, p(1, 1))), never(), of(div(2, 0, p(1, 1)))}, {put(0, u), or(div(2, 0, p(0, 1)), not(2, 0, p(1, 1))), always(), of(div(2, 0, p(1, 1)))},
		{put(0, u), and(x(1, 0), or(y(1, 0), z(1, 0))), y(1, 0), nil}, {put(0, u), or(x(1, 0), and(y(1, 0), z(1, 0))), y(1, 0), nil}, {put(0, u), and(x(1, 0), y(1, 0)), y(1, 0), nil},
		{put(0, u), or(and(x(1, 0), y(-1, 1)), z(1, 0)), z(1, 0), of(y(1, 0))}, {put(0, u), some(2, and(x(1, 0), y(-1, 1))), some(2, never()), of(y(1, 0), some(2, never()))},
		// A quantifier is bound anew, also of a constant, and where it binds nothing.
		{put(0, sum(4)), some(1, all(2, x(1, 0))), some(1, all(2, always())), of(all(2, always()), some(1, all(2, always())))},
	})
}

// Great numbers, and ones below 0; a number of more limbs than may be is ErrLimbs, and what was made ahead stays.
func TestP121GreatNumbers(t *testing.T) {
	for limbs := 1; limbs <= api.MaxLimbs; limbs++ {
		for _, k := range []api.Int{wide(limbs), widest(limbs), opposite(wide(limbs)), opposite(widest(limbs))} {
			want := bigLess(k, p(1, 1))
			makeAll(t, []making{{put(0, constant(k)), less(0, p(0, 1), p(1, 1)), want, of(want)}})
			holds := always()
			if k.Neg {
				holds = never()
			}
			makeAll(t, []making{{put(0, constant(k)), x(1, 0), holds, nil}, {put(0, constant(k)), some(1, x(1, 0)), some(1, holds), of(some(1, holds))}})
		}
		a := arena.New(meterOf(t, 100, limbs))
		id := and(x(1, 0), less(1, p(0, 1), p(1, 1)), less(0, p(0, 1), p(2, 1)))(a)
		was := a.Len()
		u := api.Term{Parts: []api.Part{p(3, 1)}, K: widest(limbs)}
		if got, e := subst.Put(a, id, 0, u); got != 0 || e != api.ErrLimbs || a.Len() != was+1 || a.Meter().Over() != e {
			t.Errorf("%d limbs: %d, %v, %d made", limbs, got, e, a.Len()-was)
		}
		if made := bigLess(widest(limbs), p(3, 1))(a); made != was {
			t.Errorf("%d limbs: what was made is %d, want %d", limbs, made, was)
		}
	}
	// A limb more is fine where the form of the atom has none of it.
	makeAll(t, []making{{put(0, constant(widest(30))), x(1, 0), always(), nil}, {put(0, api.Term{Parts: []api.Part{big(1, wide(9))}}), x(1, 0), y(1, 0), of(y(1, 0))}, {put(0, constant(wide(9))), div(4, 1, p(0, 1), p(1, 1)), div(4, 1, p(1, 1)), of(div(4, 1, p(1, 1)))}})
}

// A number of no node is ErrNode, ahead of all else, of each of the calls.
func TestErrNode(t *testing.T) {
	a := arena.New(nil)
	layAll(a, of(x(1, 0), y(1, 0), some(1, x(1, 0)), some(0, x(1, 0))))
	a.Release(a.Len() - 1)
	was := tellArena(a)
	asked := 0
	for _, no := range []int{-1, -2, least, a.Len(), a.Len() + 1, 2002, most} {
		for _, c := range []call{put(0, sum(0)), put(0, sum(0, p(1, 1))), put(7, sum(0)), instance(), instance(val(0, 1)), instance(val(7, 1)), mapped(same), mapped(func(x api.Atom) api.Atom { asked++; return x })} {
			if got, e := c.do(a, no); got != 0 || e != api.ErrNode {
				t.Errorf("%s of %d: %d, %v", c.text, no, got, e)
			}
		}
	}
	if tellArena(a) != was || asked != 0 {
		t.Errorf("asked %d times; in the arena\n%s", asked, tellArena(a))
	}
}

// An error of the arena is answered, of whichever call; what is there, or needs no node, is answered even then, and what
// the promises name ahead is told ahead.
func TestErrorsOfTheArena(t *testing.T) {
	for _, over := range []api.Errno{api.ErrNodes, api.ErrLimbs} {
		a := arena.New(meterOf(t, 9, 1))
		ids := layAll(a, of(x(1, 0), y(1, 0), and(x(1, 0), y(1, 0)), some(1, x(1, 0)), z(1, 0), and(z(1, 0), y(1, 0)), some(1, z(1, 0)), x(1, 3), or(x(1, 0), z(1, 0))))
		if over == api.ErrLimbs {
			a.Atom(api.Atom{Kind: api.Less, T: api.Term{Parts: []api.Part{p(0, 1)}, K: wide(2)}})
		} else {
			a.Bind(api.All, 0, 2)
		}
		was := tellArena(a)
		toZ := func(x api.Atom) api.Atom { return api.Atom{Kind: api.Less, T: sum(0, p(2, 1))} }
		for i, l := range []struct {
			call     call
			id, want int
			e        api.Errno
		}{
			{put(0, sum(1, p(2, 1))), ids[0], 0, over}, {put(0, sum(1, p(2, 1))), ids[2], 0, over}, {put(0, sum(1, p(2, 1))), ids[3], 0, over}, {put(0, sum(0, p(2, 1))), ids[0], ids[4], api.OK}, {put(0, sum(0, p(2, 1))), ids[2], ids[5], api.OK}, {put(0, sum(0, p(2, 1))), ids[3], ids[6], api.OK},
			{put(0, sum(3)), ids[2], ids[1], api.OK}, {put(0, sum(-3)), ids[2], 0, api.OK}, {put(7, sum(1, p(2, 1))), ids[2], ids[2], api.OK}, {put(1, sum(1, p(2, 1))), ids[3], ids[3], api.OK}, {put(0, sum(1, p(1, 1))), ids[3], 0, api.ErrBound}, {put(0, sum(0, p(2, 1))), ids[7], 0, over},
			{instance(val(0, 1)), ids[2], ids[1], api.OK}, {instance(val(0, 1), val(1, 1)), ids[2], 1, api.OK}, {instance(val(0, 1)), ids[3], 0, over}, {instance(val(1, 1)), ids[3], ids[3], api.OK}, {instance(val(1, 1), val(0, 2)), ids[3], 0, over},
			{mapped(same), ids[2], ids[2], api.OK}, {mapped(toZ), ids[2], ids[4], api.OK}, {mapped(toZ), ids[8], ids[4], api.OK}, {mapped(same), ids[3], 0, api.ErrQuant}, {mapped(nil), ids[2], 0, api.ErrArg},
			{mapped(func(x api.Atom) api.Atom { return api.Atom{Kind: api.Less, T: sum(77, p(2, 1))} }), ids[2], 0, over}, {mapped(func(x api.Atom) api.Atom { return api.Atom{Kind: 9} }), ids[2], 0, api.ErrArg},
			{put(0, sum(1, p(2, 1))), a.Len(), 0, api.ErrNode}, {instance(), -1, 0, api.ErrNode}, {mapped(same), a.Len(), 0, api.ErrNode},
		} {
			if got, e := l.call.do(a, l.id); got != l.want || e != l.e {
				t.Errorf("%v, line %d: %s of %d: %d, %v, want %d, %v", over, i, l.call.text, l.id, got, e, l.want, l.e)
			}
		}
		if tellArena(a) != was {
			t.Errorf("%v: something was made: %s", over, tellArena(a))
		}
	}
}
