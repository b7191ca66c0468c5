package arena_test

import (
	"testing"

	"riddle/api"
	"riddle/arena"
)

// The examples of the chapter with a meter.
func TestExamplesOfTheMeter(t *testing.T) {
	m := meterOf(t, 1, 1)
	follow(t, arena.New(m), line{atomOf(less(of(0, big(0, above(0, 1)), p(1, 1)))), err(api.ErrLimbs)}, line{atomOf(v(0)), err(api.ErrLimbs)}, line{length(), id(2)})
	counts(t, m, 0, api.ErrLimbs)
}

// What is made counts one, of whichever kind; what is found again counts nothing; nor does what is refused or looked at.
func TestP86Counted(t *testing.T) {
	m := meterOf(t, 100, 1)
	a := arena.New(m)
	for i, c := range []act{
		atomOf(v(0)), atomOf(div(2, of(0, p(0, 1)))), atomOf(not(2, of(0, p(0, 1)))), atomOf(less(of(9, p(5, 2), p(6, 3), p(7, 5)))), join(api.And, 2, 3), join(api.Or, 2, 3), join(api.And, 0, 1, 2, 3, 4),
		bind(api.Some, 3, 2), bind(api.All, 3, 2),
	} {
		for range 3 {
			follow(t, a, line{c, id(2 + i)})
			counts(t, m, 1+i, api.OK)
		}
	}
	for _, c := range []act{
		atomOf(api.Atom{Kind: api.True}), atomOf(less(of(5))), atomOf(api.Atom{Kind: 9}), atomOf(div(0, of(0, p(0, 1)))), join(api.And), join(api.Or), join(api.And, 2), join(api.Or, 3, 3), join(api.Or, 99), join(api.Less, 2, 3),
		bind(api.And, 0, 2), bind(api.Some, 0, 99), node(2), node(99), free(3), reach(3), plain(3), length(), release(1), release(99), release(11), release(5),
	} {
		c.do(a)
		counts(t, m, 9, api.OK)
	}
}

// A node's numbers, for the meter: D of a Div and of a Not, the coefficients and the constant of these and of a Less.
func TestP86NumbersOfEachKind(t *testing.T) {
	for limbs := 1; limbs <= api.MaxLimbs; limbs++ {
		at, over := widest(limbs), wide(limbs+1)
		// Over divides so many times its half just if 2 divides them: the form has small numbers.
		half := above(append(make([]uint32, limbs-1), 1<<31)...)
		long := func(kind int, d, c, k api.Int) act {
			return atomOf(api.Atom{Kind: kind, D: d, T: bigOf(k, p(0, 1), big(1, c))})
		}
		for _, c := range []struct {
			act  act
			want answer
		}{
			{long(api.Less, n(0), at, n(0)), id(2)}, {long(api.Less, n(0), n(0), at), id(2)}, {long(api.Less, n(0), opposite(at), opposite(at)), id(2)},
			{long(api.Less, n(0), over, n(0)), err(api.ErrLimbs)}, {long(api.Less, n(0), n(0), over), err(api.ErrLimbs)},
			{long(api.Less, n(0), opposite(over), n(0)), err(api.ErrLimbs)}, {long(api.Less, n(0), n(0), opposite(over)), err(api.ErrLimbs)},
			{long(api.Div, at, n(1), n(1)), id(2)}, {long(api.Not, at, n(1), n(1)), id(2)}, {long(api.Div, opposite(at), n(1), n(1)), id(2)},
			{long(api.Div, over, n(1), n(1)), err(api.ErrLimbs)}, {long(api.Not, over, n(1), n(1)), err(api.ErrLimbs)}, {long(api.Div, over, n(0), n(0)), err(api.ErrLimbs)},
			{long(api.Not, opposite(over), n(0), n(0)), err(api.ErrLimbs)},
			// The numbers are those of the form, not those that were handed in.
			{long(api.Less, over, n(1), n(1)), id(2)}, {long(api.Div, n(3), over, n(1)), id(2)}, {long(api.Not, n(3), n(1), over), id(2)},
			{atomOf(less(bigOf(over, big(0, over)))), id(2)}, {atomOf(less(bigOf(n(0), big(0, over), p(0, 1), big(0, opposite(over))))), id(2)},
			{atomOf(api.Atom{Kind: api.Div, D: over, T: bigOf(over, big(0, half))}), id(2)}, {atomOf(api.Atom{Kind: api.Not, D: over, T: bigOf(half, big(0, half))}), id(2)},
		} {
			m := meterOf(t, 1, limbs)
			follow(t, arena.New(m), line{c.act, c.want}, line{length(), id(2 + c.want.id/2)})
			counts(t, m, c.want.id/2, c.want.e)
		}
	}
}

// A part far behind is looked at as well as the first one.
func TestP86EachCoefficient(t *testing.T) {
	for at := range 20 {
		x := less(of(0))
		for i := range 20 {
			x.T.Parts = append(x.T.Parts, p(i, 1))
		}
		x.T.Parts[at].C = wide(3)
		m := meterOf(t, 9, 2)
		follow(t, arena.New(m), line{atomOf(x), err(api.ErrLimbs)}, line{length(), id(2)})
		counts(t, m, 0, api.ErrLimbs)
	}
}

// Nodes that are no atoms have no numbers: neither a variable nor the number of a kid is one.
func TestP86NoNumbers(t *testing.T) {
	m := meterOf(t, 2000, 1)
	a := arena.New(m)
	follow(t, a, line{bind(api.Some, most, 0), id(2)}, line{bind(api.All, least, 1), id(3)}, line{join(api.And, 2, 3), id(4)}, line{join(api.Or, 4, 3), id(5)}, line{atomOf(less(of(0, p(most, 1), p(least, 1)))), id(6)})
	counts(t, m, 5, api.OK)
}

// An error of the meter is answered and nothing is made, by whichever call; behind it what is there is still answered,
// and what is wrong is told ahead of it.
func TestP86BehindAnErrorOfTheMeter(t *testing.T) {
	for _, over := range []api.Errno{api.ErrNodes, api.ErrLimbs} {
		m := meterOf(t, 4, 1)
		a := arena.New(m)
		there := []line{{atomOf(v(0)), id(2)}, {atomOf(div(3, of(1, p(0, 1)))), id(3)}, {join(api.And, 2, 3), id(4)}, {bind(api.Some, 0, 4), id(5)}}
		follow(t, a, there...)
		if over == api.ErrLimbs {
			follow(t, a, line{atomOf(less(of(0, p(1, 1), big(0, wide(2))))), err(over)})
		} else {
			follow(t, a, line{join(api.Or, 2, 3), err(over)})
		}
		for range 2 {
			counts(t, m, 4, over)
			follow(t, a, there...)
			follow(t, a,
				line{atomOf(less(of(0, p(0, 7)))), id(2)}, line{atomOf(api.Atom{}), id(0)}, line{atomOf(less(of(1))), id(1)}, line{join(api.And), id(1)}, line{join(api.Or), id(0)}, line{join(api.Or, 5), id(5)}, line{join(api.And, 3, 2, 3), id(4)},
				line{atomOf(v(1)), err(over)}, line{atomOf(not(3, of(1, p(0, 1)))), err(over)}, line{join(api.Or, 2, 3), err(over)}, line{join(api.And, 2, 5), err(over)}, line{bind(api.All, 0, 4), err(over)}, line{bind(api.Some, 1, 4), err(over)},
				line{atomOf(api.Atom{Kind: 9}), err(api.ErrArg)}, line{atomOf(div(0, of(1))), err(api.ErrZero)}, line{join(api.Less, 2, 5), err(api.ErrArg)}, line{join(api.And, 2, 6), err(api.ErrNode)}, line{bind(api.Or, 0, 2), err(api.ErrArg)},
				line{bind(api.Some, 0, 6), err(api.ErrNode)}, line{length(), id(6)}, line{node(5), is(api.Node{Kind: api.Some, Kids: []int{4}})}, line{node(6), no()}, line{reach(5), list(2, 3, 4, 5)},
				line{release(1), err(api.ErrArg)}, line{release(6), err(api.OK)},
			)
		}
		// What is let go is not there any more, so that it can't be made again.
		follow(t, a, line{release(5), err(api.OK)}, line{bind(api.Some, 0, 4), err(over)}, line{join(api.And, 2, 3), id(4)}, line{length(), id(5)})
		counts(t, m, 4, over)
	}
}

// Of two bounds that a node would cross the meter names the limbs first; a node that is there crosses neither.
func TestP86LimbsAheadOfNodes(t *testing.T) {
	m := meterOf(t, 1, 2)
	a := arena.New(m)
	follow(t, a, line{atomOf(less(of(0, p(0, 1), big(1, wide(2))))), id(2)}, line{atomOf(less(of(0, p(0, 1), big(1, wide(2))))), id(2)}, line{atomOf(less(of(0, p(0, 1), big(1, wide(3))))), err(api.ErrLimbs)})
	counts(t, m, 1, api.ErrLimbs)
}

// Points that others count at the meter leave fewer nodes.
func TestP86OthersCountToo(t *testing.T) {
	m := meterOf(t, 5, 1)
	a := arena.New(m)
	follow(t, a, line{atomOf(v(0)), id(2)})
	if e := m.Spend(3); e != api.OK {
		t.Fatal(e)
	}
	follow(t, a, line{atomOf(v(1)), id(3)}, line{atomOf(v(2)), err(api.ErrNodes)}, line{atomOf(v(1)), id(3)}, line{length(), id(4)})
	counts(t, m, 5, api.ErrNodes)
}

// Two arenas that share a meter have nothing else in common: the nodes of both are counted there.
func TestP86SharedMeter(t *testing.T) {
	m := meterOf(t, 5, 1)
	a, b := arena.New(m), arena.New(m)
	if a.Meter() != m || b.Meter() != m {
		t.Fatal("Meter is another one")
	}
	follow(t, a, line{atomOf(v(0)), id(2)}, line{atomOf(v(1)), id(3)})
	counts(t, m, 2, api.OK)
	follow(t, b, line{length(), id(2)}, line{node(2), no()}, line{join(api.And, 2), err(api.ErrNode)}, line{atomOf(v(1)), id(2)}, line{atomOf(v(0)), id(3)})
	counts(t, m, 4, api.OK)
	follow(t, b, line{release(2), err(api.OK)})
	follow(t, a, line{length(), id(4)}, line{join(api.And, 2, 3), id(4)}, line{node(3), is(api.Node{Kind: api.Less, T: of(0, p(1, 1))})}, line{join(api.Or, 2, 3), err(api.ErrNodes)})
	follow(t, b, line{length(), id(2)}, line{atomOf(v(0)), err(api.ErrNodes)}, line{atomOf(api.Atom{Kind: api.True}), id(1)})
	follow(t, a, line{join(api.And, 2, 3), id(4)})
	counts(t, m, 5, api.ErrNodes)
}

// Drawn calls of two arenas that share a meter are answered as the slow ones do that share a slow meter.
func TestP86DrawnWithASharedMeter(t *testing.T) {
	d := &dice{state: 86}
	for range drawn / 4 {
		nodes, limbs := 1+d.roll(60), 1+d.roll(api.MaxLimbs)
		m, count := meterOf(t, nodes, limbs), &slowMeter{nodes: nodes, limbs: limbs}
		arenas, slows := [2]*arena.Arena{arena.New(m), arena.New(m)}, [2]*slow{newSlow(count), newSlow(count)}
		row := ""
		for range 60 {
			which := d.roll(2)
			c := d.act(len(slows[which].nodes), limbs)
			row += " " + string('a'+rune(which)) + "." + c.String()
			if got, want := c.do(arenas[which]), slows[which].do(c); got.String() != want.String() {
				t.Fatalf("%s: %s, want %s", row, got, want)
			}
		}
		agree(t, row, arenas[0], slows[0])
		agree(t, row, arenas[1], slows[1])
	}
}
