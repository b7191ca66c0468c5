package arena_test

import (
	"slices"
	"testing"

	"riddle/api"
	"riddle/arena"
)

// v(0) is 0 < v0, and so on.
func v(number int) api.Atom { return less(of(0, p(number, 1))) }

// The examples of the chapter, line by line, but for the meter's.
func TestExamples(t *testing.T) {
	follow(t, arena.New(nil),
		line{length(), id(2)},
		line{atomOf(less(of(4, p(0, 2)))), id(2)}, line{atomOf(less(of(2, p(0, 1)))), id(2)}, line{length(), id(3)},
		line{atomOf(api.Atom{}), id(0)}, line{atomOf(div(0, of(1, p(0, 1)))), err(api.ErrZero)}, line{atomOf(api.Atom{Kind: 9}), err(api.ErrArg)},
		line{join(api.And, 2, 2), id(2)}, line{join(api.And), id(1)}, line{join(api.Or), id(0)}, line{join(api.And, 1, 2), id(3)},
		line{join(api.And, 2, 1), id(3)}, line{join(api.Or, 9), err(api.ErrNode)}, line{join(api.Less, 2), err(api.ErrArg)},
		line{bind(api.Some, 0, 3), id(4)}, line{free(4), list()}, line{free(3), list(0)}, line{reach(4), list(1, 2, 3, 4)}, line{plain(4), no()},
		line{bind(api.And, 0, 3), err(api.ErrArg)},
		line{release(4), err(api.OK)}, line{node(4), no()}, line{bind(api.All, 7, 2), id(4)}, line{release(1), err(api.ErrArg)}, line{release(9), err(api.ErrArg)},
	)
}

// New: two nodes, neither of them counted, and the meter that was handed in.
func TestP81TwoNodes(t *testing.T) {
	m := meterOf(t, 5, 2)
	a := arena.New(m)
	follow(t, a, line{length(), id(2)}, line{node(0), is(api.Node{Kind: api.False})}, line{node(1), is(api.Node{Kind: api.True})}, line{node(2), no()})
	counts(t, m, 0, api.OK)
	if a.Meter() != m {
		t.Error("Meter is another one")
	}
}

// A meter that has counted, or is over, is no reason to have no constants.
func TestP81MeterThatHasCounted(t *testing.T) {
	m := meterOf(t, 1, 1)
	m.Node()
	first := arena.New(m)
	counts(t, m, 1, api.OK)
	m.Spend(1)
	second := arena.New(m)
	counts(t, m, 1, api.ErrNodes)
	for _, a := range []*arena.Arena{first, second} {
		follow(t, a, line{length(), id(2)}, line{node(1), is(api.Node{Kind: api.True})}, line{atomOf(v(0)), err(api.ErrNodes)}, line{length(), id(2)})
	}
}

// New of nil: a meter of its own, of 2000 nodes and 8 limbs.
func TestP81MeterOfItsOwn(t *testing.T) {
	a, b := arena.New(nil), arena.New(nil)
	if a.Meter() == nil || a.Meter() == b.Meter() || a.Meter() != a.Meter() {
		t.Fatal("not each has a meter of its own")
	}
	counts(t, a.Meter(), 0, api.OK)
	follow(t, a, line{atomOf(less(bigOf(widest(8), p(0, 1), big(1, opposite(widest(8)))))), id(2)})
	counts(t, a.Meter(), 1, api.OK)
	for i := 1; i < 2000; i++ {
		follow(t, a, line{atomOf(v(i)), id(2 + i)})
	}
	counts(t, a.Meter(), 2000, api.OK)
	follow(t, a, line{length(), id(2002)}, line{atomOf(v(0)), err(api.ErrNodes)}, line{length(), id(2002)})
	counts(t, a.Meter(), 2000, api.ErrNodes)
	follow(t, b, line{atomOf(less(of(0, p(0, 1), big(1, wide(9))))), err(api.ErrLimbs)}, line{length(), id(2)})
	counts(t, b.Meter(), 0, api.ErrLimbs)
}

// Atoms of every kind: in their form.
func TestP82EveryKind(t *testing.T) {
	x, y := p(0, 1), p(1, 1)
	follow(t, arena.New(nil),
		line{atomOf(less(of(3, p(0, 2)))), id(2)}, line{node(2), is(api.Node{Kind: api.Less, T: of(2, x)})},
		line{atomOf(div(-6, of(2, p(0, 4)))), id(3)}, line{node(3), is(api.Node{Kind: api.Div, D: n(3), T: of(2, x)})},
		line{atomOf(not(-6, of(2, p(0, 4)))), id(4)}, line{node(4), is(api.Node{Kind: api.Not, D: n(3), T: of(2, x)})},
		line{atomOf(less(of(-7, p(1, -3), p(0, 5)))), id(5)}, line{node(5), is(api.Node{Kind: api.Less, T: of(-7, p(0, 5), p(1, -3))})},
		line{atomOf(div(2, of(0, x, y))), id(6)}, line{atomOf(div(2, of(1, x, y))), id(7)}, line{atomOf(div(3, of(1, x, y))), id(8)},
		line{atomOf(div(3, of(1, x))), id(9)}, line{atomOf(less(of(2, y))), id(10)}, line{atomOf(less(of(-2, y))), id(11)},
		line{atomOf(less(of(2, p(1, -1)))), id(12)}, line{length(), id(13)},
	)
}

// Atoms that are False or True: 0 and 1, whatever else stands in their fields, and nothing is counted.
func TestP82Constants(t *testing.T) {
	a := arena.New(meterOf(t, 1, 1))
	x := p(0, 1)
	for _, c := range []struct {
		atom api.Atom
		id   int
	}{
		{api.Atom{}, 0}, {api.Atom{Kind: api.True}, 1}, {api.Atom{Kind: api.False, D: n(5), T: of(1, x)}, 0}, {api.Atom{Kind: api.True, D: wide(9), T: of(-1, big(0, wide(9)))}, 1},
		{less(of(0)), 0}, {less(of(1)), 1}, {less(of(-1)), 0}, {less(of(3, p(0, 0))), 1}, {less(of(0, p(0, 2), p(0, -2))), 0}, {less(bigOf(wide(9))), 1},
		{div(1, of(5, x)), 1}, {not(1, of(5, x)), 0}, {div(-1, of(5, x)), 1}, {div(5, of(10)), 1}, {not(5, of(10)), 0}, {div(5, of(3)), 0}, {not(5, of(3)), 1},
		{div(4, of(1, p(0, 2))), 0}, {not(4, of(1, p(0, 2))), 1}, {div(4, of(0, p(0, 8))), 1}, {div(4, of(1, p(0, 8))), 0}, {less(bigOf(opposite(wide(9)))), 0},
	} {
		follow(t, a, line{atomOf(c.atom), id(c.id)})
	}
	follow(t, a, line{length(), id(2)})
	counts(t, a.Meter(), 0, api.OK)
}

// What atom.Norm refuses is refused with its error, and nothing is made or counted.
func TestP82Refused(t *testing.T) {
	a := arena.New(nil)
	for _, kind := range []int{least, -2, -1, api.And, api.Or, api.Some, api.All, 9, most} {
		follow(t, a, line{atomOf(api.Atom{Kind: kind}), err(api.ErrArg)}, line{atomOf(api.Atom{Kind: kind, D: n(3), T: of(1, p(0, 1))}), err(api.ErrArg)})
	}
	for _, nought := range []api.Int{above(), below(), above(0), below(0, 0)} {
		for _, kind := range []int{api.Div, api.Not} {
			follow(t, a, line{atomOf(api.Atom{Kind: kind, D: nought, T: of(1, p(0, 1))}), err(api.ErrZero)})
		}
		follow(t, a, line{atomOf(api.Atom{Kind: api.Less, D: nought, T: of(0)}), id(0)})
	}
	follow(t, a, line{length(), id(2)})
	counts(t, a.Meter(), 0, api.OK)
}

// Atoms that have one form are one node, in whichever way they were handed in.
func TestP82OneForm(t *testing.T) {
	x := p(0, 1)
	for _, same := range [][]api.Atom{
		{less(of(2, x)), less(of(4, p(0, 2))), less(of(3, p(0, 2))), less(of(6, p(0, 3))), less(of(2, p(0, 3), p(0, -2))), less(of(2, p(1, 0), x)), less(bigOf(above(2, 0, 0), big(0, above(1, 0)))),
			{Kind: api.Less, D: n(7), T: of(2, x)}},
		{less(of(1, p(-3, 2), p(4, -5))), less(of(1, p(4, -5), p(-3, 2))), less(of(2, p(4, -10), p(-3, 4))), less(of(1, p(4, -6), p(-3, 1), p(9, 1), p(4, 1), p(-3, 1), p(9, -1)))},
		{div(3, of(1, x)), div(-3, of(1, x)), div(3, of(-2, x)), div(3, of(4, p(0, 4))), div(3, of(2, p(0, 2))), div(6, of(2, p(0, 2))), div(3, of(1, x, p(1, 3))), div(3, of(-1, p(0, -1))),
			{Kind: api.Div, D: above(3, 0), T: bigOf(above(1, 0), big(0, above(1, 0, 0)))}},
		{not(3, of(1, x)), not(-3, of(1, x)), not(3, of(-2, x)), not(3, of(4, p(0, 4))), not(3, of(2, p(0, 2))), not(6, of(2, p(0, 2)))},
	} {
		a := arena.New(nil)
		for _, form := range same {
			follow(t, a, line{atomOf(form), id(2)})
		}
		follow(t, a, line{length(), id(3)})
		counts(t, a.Meter(), 1, api.OK)
	}
}

// Join: of the kids, each once: none, one, else the node whose kids are these, rising.
func TestP83Joined(t *testing.T) {
	a := arena.New(nil)
	for i := range 4 {
		follow(t, a, line{atomOf(v(i)), id(2 + i)})
	}
	follow(t, a,
		line{join(api.And), id(1)}, line{join(api.Or), id(0)}, line{join(api.And, []int{}...), id(1)},
		line{join(api.And, 3), id(3)}, line{join(api.Or, 3), id(3)}, line{join(api.And, 0), id(0)}, line{join(api.Or, 0), id(0)}, line{join(api.And, 1), id(1)}, line{join(api.Or, 1), id(1)},
		line{join(api.And, 3, 3, 3), id(3)}, line{join(api.Or, 0, 0), id(0)}, line{length(), id(6)},
		line{join(api.And, 5, 2, 4), id(6)}, line{node(6), is(api.Node{Kind: api.And, Kids: []int{2, 4, 5}})},
		line{join(api.And, 2, 4, 5), id(6)}, line{join(api.And, 4, 5, 2), id(6)}, line{join(api.And, 5, 5, 2, 4, 2, 5, 4), id(6)}, line{length(), id(7)},
		line{join(api.Or, 5, 2, 4), id(7)}, line{node(7), is(api.Node{Kind: api.Or, Kids: []int{2, 4, 5}})},
		line{join(api.And, 2, 4), id(8)}, line{join(api.And, 4, 5), id(9)}, line{join(api.And, 2, 3, 4, 5), id(10)},
		// Nothing is made simpler: not constants, not kids of the same kind, not what is there twice over.
		line{join(api.And, 1, 0), id(11)}, line{node(11), is(api.Node{Kind: api.And, Kids: []int{0, 1}})}, line{join(api.Or, 0, 1), id(12)}, line{join(api.Or, 0, 3), id(13)},
		line{join(api.And, 6, 2), id(14)}, line{node(14), is(api.Node{Kind: api.And, Kids: []int{2, 6}})}, line{join(api.And, 14, 14), id(14)}, line{join(api.Or, 14, 6, 7), id(15)},
		line{length(), id(16)},
	)
	counts(t, a.Meter(), 14, api.OK)
}

// Opposites are not joined to a constant: that is another layer's.
func TestP83OppositesStay(t *testing.T) {
	follow(t, arena.New(nil),
		line{atomOf(div(2, of(0, p(0, 1)))), id(2)}, line{atomOf(not(2, of(0, p(0, 1)))), id(3)}, line{join(api.And, 2, 3), id(4)}, line{join(api.Or, 2, 3), id(5)},
		line{atomOf(v(0)), id(6)}, line{atomOf(less(of(5, p(0, 1)))), id(7)}, line{join(api.And, 6, 7), id(8)}, line{bind(api.Some, 3, 8), id(9)}, line{bind(api.All, 0, 1), id(10)},
	)
}

func TestP83JoinRefused(t *testing.T) {
	a := arena.New(nil)
	follow(t, a, line{atomOf(v(0)), id(2)}, line{atomOf(v(1)), id(3)})
	for _, kind := range []int{least, -1, api.False, api.True, api.Less, api.Div, api.Not, api.Some, api.All, 9, most} {
		// ErrArg comes ahead of ErrNode, and whatever the kids are.
		for _, kids := range [][]int{nil, {2}, {2, 3}, {2, 2}, {4}, {-1, 2}, {most}} {
			follow(t, a, line{join(kind, kids...), err(api.ErrArg)})
		}
	}
	for _, kind := range []int{api.And, api.Or} {
		for _, kids := range [][]int{{4}, {-1}, {least}, {most}, {2, 4}, {4, 2}, {2, 3, -1}, {-1, 2, 3}, {2, 4, 3}, {4, 4}, {2, 3, 2, 3, 2, 5}, {0, 1, 4}} {
			follow(t, a, line{join(kind, kids...), err(api.ErrNode)})
		}
	}
	follow(t, a, line{length(), id(4)})
	counts(t, a.Meter(), 2, api.OK)
}

// Bind: of every kind, variable and kid; nothing is made simpler.
func TestP83Bound(t *testing.T) {
	a := arena.New(nil)
	follow(t, a,
		line{atomOf(v(5)), id(2)},
		line{bind(api.Some, 5, 2), id(3)}, line{node(3), is(api.Node{Kind: api.Some, Var: 5, Kids: []int{2}})},
		line{bind(api.All, 5, 2), id(4)}, line{node(4), is(api.Node{Kind: api.All, Var: 5, Kids: []int{2}})},
		line{bind(api.Some, 5, 2), id(3)}, line{bind(api.All, 5, 2), id(4)},
		line{bind(api.Some, 6, 2), id(5)}, line{bind(api.Some, -5, 2), id(6)}, line{node(6), is(api.Node{Kind: api.Some, Var: -5, Kids: []int{2}})},
		line{bind(api.Some, most, 2), id(7)}, line{node(7), is(api.Node{Kind: api.Some, Var: most, Kids: []int{2}})},
		line{bind(api.Some, least, 2), id(8)}, line{node(8), is(api.Node{Kind: api.Some, Var: least, Kids: []int{2}})},
		line{bind(api.Some, 0, 2), id(9)}, line{node(9), is(api.Node{Kind: api.Some, Kids: []int{2}})},
		line{bind(api.Some, 5, 3), id(10)}, line{bind(api.All, 5, 3), id(11)}, line{bind(api.Some, 5, 0), id(12)}, line{bind(api.All, 5, 1), id(13)},
		line{node(12), is(api.Node{Kind: api.Some, Var: 5, Kids: []int{0}})}, line{length(), id(14)},
	)
	counts(t, a.Meter(), 12, api.OK)
}

func TestP83BindRefused(t *testing.T) {
	a := arena.New(nil)
	follow(t, a, line{atomOf(v(0)), id(2)})
	for _, kind := range []int{least, -1, api.False, api.True, api.Less, api.Div, api.Not, api.And, api.Or, 9, most} {
		for _, kid := range []int{2, 3, -1} {
			follow(t, a, line{bind(kind, 0, kid), err(api.ErrArg)})
		}
	}
	for _, kind := range []int{api.Some, api.All} {
		for _, kid := range []int{3, 4, -1, least, most} {
			follow(t, a, line{bind(kind, 0, kid), err(api.ErrNode)}, line{bind(kind, most, kid), err(api.ErrNode)})
		}
	}
	follow(t, a, line{length(), id(3)})
	counts(t, a.Meter(), 1, api.OK)
}

// Looked at: every kind of node.
func TestP84EveryKind(t *testing.T) {
	a := arena.New(nil)
	follow(t, a,
		line{atomOf(less(of(1, p(3, 1), p(-2, -1), p(0, 4)))), id(2)}, line{atomOf(div(5, of(1, p(7, 1), p(most, 1)))), id(3)}, line{atomOf(not(5, of(1, p(7, 1), p(least, 1)))), id(4)},
		line{join(api.And, 2, 3), id(5)}, line{join(api.Or, 3, 4, 5), id(6)}, line{bind(api.Some, 7, 6), id(7)}, line{bind(api.All, 0, 7), id(8)}, line{bind(api.All, 1, 2), id(9)},
	)
	for of, x := range []struct {
		free, reach []int
		plain       bool
	}{
		{nil, []int{0}, true}, {nil, []int{1}, true}, {[]int{-2, 0, 3}, []int{2}, true}, {[]int{7, most}, []int{3}, true}, {[]int{least, 7}, []int{4}, true},
		{[]int{-2, 0, 3, 7, most}, []int{2, 3, 5}, true}, {[]int{least, -2, 0, 3, 7, most}, []int{2, 3, 4, 5, 6}, true},
		{[]int{least, -2, 0, 3, most}, []int{2, 3, 4, 5, 6, 7}, false}, {[]int{least, -2, 3, most}, []int{2, 3, 4, 5, 6, 7, 8}, false}, {[]int{-2, 0, 3}, []int{2, 9}, false},
	} {
		follow(t, a, line{free(of), list(x.free...)}, line{reach(of), list(x.reach...)}, line{plain(of), answer{is: x.plain}})
	}
}

// Of a number of no node: nothing, nothing, false.
func TestP84NoNode(t *testing.T) {
	a := arena.New(nil)
	follow(t, a, line{atomOf(v(0)), id(2)}, line{bind(api.Some, 1, 2), id(3)}, line{release(3), err(api.OK)})
	for _, of := range []int{least, -2, -1, 3, 4, 2002, most} {
		follow(t, a, line{node(of), no()}, line{free(of), list()}, line{reach(of), list()}, line{plain(of), no()})
	}
}

// A variable is free where it stands in an atom that is not below a quantifier that binds it.
func TestP84Free(t *testing.T) {
	follow(t, arena.New(nil),
		line{atomOf(v(0)), id(2)}, line{atomOf(v(1)), id(3)}, line{join(api.And, 2, 3), id(4)},
		// Bound twice over.
		line{bind(api.Some, 0, 4), id(5)}, line{bind(api.All, 0, 5), id(6)}, line{bind(api.All, 1, 6), id(7)}, line{bind(api.Some, 0, 7), id(8)},
		line{free(5), list(1)}, line{free(6), list(1)}, line{free(7), list()}, line{free(8), list()},
		// Bound in one place, free in another: by a kid that is shared, or by a parent of what is bound.
		line{join(api.Or, 2, 5), id(9)}, line{free(9), list(0, 1)}, line{join(api.And, 7, 4), id(10)}, line{free(10), list(0, 1)}, line{join(api.And, 3, 7), id(11)}, line{free(11), list(1)},
		line{bind(api.All, 1, 9), id(12)}, line{free(12), list(0)}, line{join(api.Or, 12, 7), id(13)}, line{free(13), list(0)}, line{bind(api.Some, 0, 13), id(14)}, line{free(14), list()},
		// Below a quantifier of another variable.
		line{bind(api.Some, 9, 2), id(15)}, line{free(15), list(0)}, line{bind(api.Some, 1, 2), id(16)}, line{free(16), list(0)},
		// A quantifier of variable 0 is no And, whose field is 0 too.
		line{bind(api.Some, 1, 4), id(17)}, line{free(17), list(0)}, line{free(4), list(0, 1)}, line{bind(api.Some, 0, 2), id(18)}, line{join(api.And, 4, 18), id(19)}, line{free(19), list(0, 1)},
		// Of a constant.
		line{bind(api.Some, 0, 1), id(20)}, line{free(20), list()},
		// An atom of which one variable is bound.
		line{atomOf(less(of(0, p(0, 1), p(1, 1), p(2, -1)))), id(21)}, line{bind(api.Some, 1, 21), id(22)}, line{free(22), list(0, 2)}, line{free(21), list(0, 1, 2)},
	)
}

// Many variables that are bound, and many that are not, don't get into each other's way.
func TestP84FreeAmongMany(t *testing.T) {
	for _, many := range []int{1, 2, 63, 64, 65, 127, 128, 129, 300} {
		a := arena.New(nil)
		var all api.Term
		for i := range many {
			all.Parts = append(all.Parts, p(i, 1))
		}
		atom, _ := a.Atom(less(all))
		last := atom
		var left []int
		for i := range many {
			if i%3 == 1 {
				left = append(left, i)
			} else {
				last, _ = a.Bind(api.Some+i%2, i, last)
			}
		}
		// The least and the greatest one are free in another place.
		first, _ := a.Atom(less(of(0, p(0, 1), p(many-1, -2))))
		both, _ := a.Join(api.Or, last, first)
		follow(t, a, line{free(last), list(left...)}, line{free(atom), list(upTo(many)...)})
		left = append(left, 0, many-1)
		slices.Sort(left)
		follow(t, a, line{free(both), list(slices.Compact(left)...)})
	}
}

// upTo are so many numbers, from 0 on.
func upTo(many int) []int {
	l := make([]int, many)
	for i := range l {
		l[i] = i
	}
	return l
}

// Reach has each node once, and none beside those of which the node is made.
func TestP84Reach(t *testing.T) {
	follow(t, arena.New(nil),
		line{atomOf(v(0)), id(2)}, line{atomOf(v(1)), id(3)}, line{atomOf(v(2)), id(4)}, line{join(api.And, 2, 4), id(5)}, line{join(api.Or, 2, 3), id(6)}, line{join(api.And, 5, 6, 2), id(7)},
		line{bind(api.Some, 0, 3), id(8)}, line{join(api.And, 0, 8), id(9)}, line{join(api.Or, 9, 3, 1), id(10)},
		line{reach(5), list(2, 4, 5)}, line{reach(6), list(2, 3, 6)}, line{reach(7), list(2, 3, 4, 5, 6, 7)}, line{reach(8), list(3, 8)}, line{reach(9), list(0, 3, 8, 9)},
		line{reach(10), list(0, 1, 3, 8, 9, 10)}, line{reach(0), list(0)}, line{reach(4), list(4)},
		line{plain(7), yes()}, line{plain(8), no()}, line{plain(9), no()}, line{plain(10), no()}, line{plain(0), yes()}, line{plain(1), yes()},
	)
}

// Release: what has numbers from n on is gone, all else stays as it is.
func TestP85LetGo(t *testing.T) {
	a := arena.New(nil)
	m := a.Meter()
	follow(t, a,
		line{atomOf(v(0)), id(2)}, line{atomOf(div(3, of(1, p(0, 1)))), id(3)}, line{join(api.And, 2, 3), id(4)}, line{bind(api.Some, 0, 4), id(5)}, line{join(api.Or, 2, 5), id(6)}, line{length(), id(7)},
		// Of Len nothing goes.
		line{release(7), err(api.OK)}, line{length(), id(7)}, line{join(api.Or, 5, 2), id(6)},
		line{release(8), err(api.ErrArg)}, line{release(1), err(api.ErrArg)}, line{release(0), err(api.ErrArg)}, line{release(-1), err(api.ErrArg)}, line{release(least), err(api.ErrArg)}, line{release(most), err(api.ErrArg)},
		line{length(), id(7)}, line{node(6), is(api.Node{Kind: api.Or, Kids: []int{2, 5}})},
	)
	counts(t, m, 5, api.OK)
	follow(t, a,
		line{release(4), err(api.OK)}, line{length(), id(4)}, line{node(4), no()}, line{node(5), no()}, line{node(6), no()}, line{free(4), list()}, line{reach(5), list()}, line{plain(4), no()},
		line{join(api.And, 4, 2), err(api.ErrNode)}, line{join(api.And, 6), err(api.ErrNode)}, line{bind(api.Some, 0, 4), err(api.ErrNode)}, line{release(5), err(api.ErrArg)},
		line{node(3), is(api.Node{Kind: api.Div, D: n(3), T: of(1, p(0, 1))})}, line{atomOf(v(0)), id(2)}, line{atomOf(div(3, of(1, p(0, 1)))), id(3)},
	)
	counts(t, m, 5, api.OK)
	// What is joined anew behind it gets the next number, and is counted anew.
	follow(t, a,
		line{join(api.Or, 2, 3), id(4)}, line{node(4), is(api.Node{Kind: api.Or, Kids: []int{2, 3}})}, line{join(api.And, 3, 2), id(5)}, line{join(api.And, 2, 3), id(5)}, line{bind(api.Some, 0, 5), id(6)},
		line{free(6), list()}, line{free(4), list(0)}, line{reach(6), list(2, 3, 5, 6)}, line{length(), id(7)},
	)
	counts(t, m, 8, api.OK)
	follow(t, a, line{release(2), err(api.OK)}, line{length(), id(2)}, line{release(2), err(api.OK)}, line{release(3), err(api.ErrArg)}, line{node(1), is(api.Node{Kind: api.True})}, line{atomOf(api.Atom{Kind: api.True}), id(1)},
		line{atomOf(api.Atom{}), id(0)}, line{atomOf(div(3, of(1, p(0, 1)))), id(2)}, line{atomOf(v(0)), id(3)}, line{join(api.And, 0, 1), id(4)})
	counts(t, m, 11, api.OK)
}

// What is let go node by node is gone node by node, each with its own text.
func TestP85OneByOne(t *testing.T) {
	a := arena.New(nil)
	acts := []act{
		atomOf(v(0)), atomOf(v(-1)), atomOf(less(bigOf(widest(8), p(3, -1)))), atomOf(div(3, of(1, p(0, 1)))), atomOf(not(3, of(1, p(0, 1)))), join(api.And, 2, 3, 4), join(api.Or, 2, 3, 4),
		bind(api.Some, -4, 5), bind(api.All, -4, 5), bind(api.All, least, 9), join(api.And, 0, 1),
	}
	for i, c := range acts {
		follow(t, a, line{c, id(2 + i)})
	}
	for left := len(acts) - 1; left >= 0; left-- {
		follow(t, a, line{release(2 + left), err(api.OK)}, line{length(), id(2 + left)}, line{node(2 + left), no()})
		for i, c := range acts[:left] {
			follow(t, a, line{c, id(2 + i)})
		}
		// Another one has its number now; then it has the number again.
		follow(t, a, line{atomOf(v(77)), id(2 + left)}, line{release(2 + left), err(api.OK)}, line{acts[left], id(2 + left)}, line{atomOf(v(77)), id(3 + left)}, line{release(2 + left), err(api.OK)})
	}
	counts(t, a.Meter(), 4*len(acts), api.OK)
}

// The meter is not set back: what a run has made counts, though it is gone.
func TestP85MeterIsNotSetBack(t *testing.T) {
	m := meterOf(t, 3, 1)
	a := arena.New(m)
	follow(t, a, line{atomOf(v(0)), id(2)}, line{release(2), err(api.OK)}, line{atomOf(v(0)), id(2)}, line{release(2), err(api.OK)}, line{atomOf(v(1)), id(2)}, line{atomOf(v(1)), id(2)})
	counts(t, m, 3, api.OK)
	follow(t, a, line{release(2), err(api.OK)}, line{atomOf(v(1)), err(api.ErrNodes)}, line{length(), id(2)}, line{release(2), err(api.OK)}, line{atomOf(v(1)), err(api.ErrNodes)})
	counts(t, m, 3, api.ErrNodes)
}
