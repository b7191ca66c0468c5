package simp_test

import (
	"testing"

	"riddle/api"
	"riddle/arena"
	"riddle/simp"
)

// A making is what Negate or Again is asked of, what is to come of it, and what is to be made on the way, in that order.
type making struct {
	of, want form
	news     []form
}

// makes fails unless a call answers what it should and makes just what it should, in its order; unless it answers the same
// again and makes nothing then; and unless with fewer nodes it stops where the meter does, and what was made stays.
func (m making) makes(t *testing.T, at int, name string) {
	t.Helper()
	a := arena.New(nil)
	id := m.of(a)
	was := a.Len()
	got, e := call{name, []int{id}}.do(a)
	m.areNew(t, at, a, was, len(m.news))
	if want := m.want(a); e != api.OK || got != want || a.Len() != was+len(m.news) {
		t.Fatalf("%s, row %d: %d, %v, want %d, in\n%s", name, at, got, e, want, tellArena(a))
	}
	behind := tellArena(a)
	if again, e := (call{name, []int{id}}).do(a); again != got || e != api.OK || tellArena(a) != behind {
		t.Fatalf("%s, row %d, for the second time: %d, %v, want %d", name, at, again, e, got)
	}
	for left := range m.news {
		if was+left < 3 {
			continue
		}
		a := arena.New(meterOf(t, was-2+left, 8))
		if got, e := (call{name, []int{m.of(a)}}).do(a); got != 0 || e != api.ErrNodes || a.Meter().Over() != e {
			t.Fatalf("%s, row %d, with %d nodes left: %d, %v", name, at, left, got, e)
		}
		m.areNew(t, at, a, was, left)
	}
}

// areNew fails unless the nodes of an arena from a number on are the first ones of those that are to be made.
func (m making) areNew(t *testing.T, at int, a *arena.Arena, from, many int) {
	t.Helper()
	if a.Len() != from+many {
		t.Fatalf("row %d: %d made, want %d, in\n%s", at, a.Len()-from, many, tellArena(a))
	}
	for i, f := range m.news[:many] {
		if id := f(a); id != from+i {
			t.Fatalf("row %d: what should be made as number %d is %d, in\n%s", at, from+i, id, tellArena(a))
		}
	}
}

func makeAll(t *testing.T, name string, rows []making) {
	t.Helper()
	for at, m := range rows {
		m.makes(t, at, name)
	}
}

// Of every kind of node the opposite.
func TestP93EveryKind(t *testing.T) {
	a, e, f := x(1, 0), div(2, 0, p(0, 1)), not(2, 0, p(0, 1))
	b, notA, notB := y(1, -3), x(-1, 1), y(-1, 4)
	long, notLong := less(5, p(-9, 2), p(0, -3), p(most, 1)), less(-4, p(-9, -2), p(0, 3), p(most, -1))
	makeAll(t, "Negate", []making{
		{never(), always(), nil}, {always(), never(), nil}, {a, notA, of(notA)}, {notA, a, of(a)}, {long, notLong, of(notLong)}, {e, f, of(f)}, {f, e, of(e)},
		{div(5, 3, p(0, 1), p(1, 2)), not(5, 3, p(0, 1), p(1, 2)), of(not(5, 3, p(0, 1), p(1, 2)))},
		{and(a, e), or(notA, f), of(notA, f, or(notA, f))}, {or(a, e), and(notA, f), of(notA, f, and(notA, f))},
		{some(0, a), all(0, notA), of(notA, all(0, notA))}, {all(0, a), some(0, notA), of(notA, some(0, notA))}, {some(-7, never()), all(-7, always()), of(all(-7, always()))}, {all(most, always()), some(most, never()), of(some(most, never()))},
		{and(a, b, e), or(notA, notB, f), of(notA, notB, f, or(notA, notB, f))},
		{some(0, all(1, and(a, b))), all(0, some(1, or(notA, notB))), of(notA, notB, or(notA, notB), some(1, or(notA, notB)), all(0, some(1, or(notA, notB))))},
		{all(0, some(0, or(a, some(1, b)))), some(0, all(0, and(notA, all(1, notB)))), of(notA, notB, all(1, notB), and(notA, all(1, notB)), all(0, and(notA, all(1, notB))), some(0, all(0, and(notA, all(1, notB)))))},
		// What is there already is not made.
		{and(a, or(notA, e)), or(notA, and(a, f)), of(f, and(a, f), or(notA, and(a, f)))}, {or(and(e, f), a), notA, of(notA)},
	})
}

// What is joined is made simpler on the way; what it is joined of was made by then.
func TestP93Simpler(t *testing.T) {
	a, b, c, e := x(1, 0), x(1, -3), y(1, 0), div(2, 0, p(0, 1))
	notA, notB, notC, notE := x(-1, 1), x(-1, 4), y(-1, 1), not(2, 0, p(0, 1))
	makeAll(t, "Negate", []making{
		// Of Less with the same parts one stays.
		{and(a, b), notB, of(notA, notB)}, {or(a, b), notA, of(notA, notB)},
		// Two Less come to a constant; so do a Div and a Not.
		{or(a, x(-1, 1)), never(), nil}, {and(a, x(-1, 1)), always(), nil}, {or(a, x(-1, 2)), never(), of(notA, x(1, -1))}, {and(a, x(-1, -5)), always(), of(notA, x(1, 6))}, {and(e, notE), always(), nil}, {or(e, notE), never(), nil},
		// Constants are left out, or rule.
		{and(a, always()), notA, of(notA)}, {or(a, never()), notA, of(notA)}, {and(a, never()), always(), of(notA)}, {or(a, always()), never(), of(notA)}, {and(never(), always()), always(), nil},
		// What is of the same kind is spread.
		{and(a, and(c, e)), or(notA, notC, notE), of(notA, notC, notE, or(notC, notE), or(notA, notC, notE))}, {or(or(a, c), e), and(notA, notC, notE), of(notA, notC, and(notA, notC), notE, and(notA, notC, notE))},
		// What follows is left out.
		{and(a, or(a, c)), notA, of(notA, notC, and(notA, notC))}, {or(a, and(a, c)), notA, of(notA, notC, or(notA, notC))},
		// Below a quantifier, too.
		{some(0, and(a, and(b, always()))), all(0, notB), of(notA, notB, all(0, notB))},
	})
}

// behind is a formula that is laid behind others, so that the numbers of nodes are not in the order of its text.
func behind(first []form, f form) form {
	return func(a *arena.Arena) int {
		layAll(a, first)
		return f(a)
	}
}

// Kids come in the order of their numbers, each with all that hangs below it ahead of the next one: not all nodes in the
// order of their numbers, nor those ahead that are nearer to the root. A node that is reached on several ways comes once.
func TestP93OrderOfMaking(t *testing.T) {
	a, b, c, e := x(1, 0), y(1, 0), less(0, p(2, 1)), div(2, 0, p(0, 1))
	notA, notB, notC, notE := x(-1, 1), y(-1, 1), less(1, p(2, -1)), not(2, 0, p(0, 1))
	makeAll(t, "Negate", []making{
		{behind(of(a, b, c), and(c, or(a, b))), or(notC, and(notA, notB)), of(notC, notA, notB, and(notA, notB), or(notC, and(notA, notB)))},
		{behind(of(a, b, c, e), and(or(a, e), or(b, c))), or(and(notA, notE), and(notB, notC)), of(notA, notE, and(notA, notE), notB, notC, and(notB, notC), or(and(notA, notE), and(notB, notC)))},
		{behind(of(c, b, a), and(a, b, c)), or(notA, notB, notC), of(notC, notB, notA, or(notA, notB, notC))},
		{behind(of(e, or(b, c), some(0, a)), and(some(0, a), e, or(b, c))), or(notE, and(notB, notC), all(0, notA)), of(notE, notB, notC, and(notB, notC), notA, all(0, notA), or(notE, and(notB, notC), all(0, notA)))},
		// Shared: below two kids, and as a kid itself.
		{and(or(a, b), or(a, c), or(b, c)), or(and(notA, notB), and(notA, notC), and(notB, notC)),
			of(notA, notB, and(notA, notB), notC, and(notA, notC), and(notB, notC), or(and(notA, notB), and(notA, notC), and(notB, notC)))},
		{and(some(0, or(a, b)), all(0, or(a, b)), some(1, some(0, or(a, b)))), or(all(0, and(notA, notB)), some(0, and(notA, notB)), all(1, all(0, and(notA, notB)))),
			of(notA, notB, and(notA, notB), all(0, and(notA, notB)), some(0, and(notA, notB)), all(1, all(0, and(notA, notB))), or(all(0, and(notA, notB)), some(0, and(notA, notB)), all(1, all(0, and(notA, notB)))))},
	})
	makeAll(t, "Again", []making{
		{behind(of(a, b, c), and(and(c, always()), and(a, and(b, always())))), and(a, b, c), of(and(a, b), and(a, b, c))},
		{behind(of(a, b, c, e), or(and(c, and(e, always())), and(a, and(b, always())))), or(and(c, e), and(a, b)), of(and(c, e), and(a, b), or(and(a, b), and(c, e)))},
		{behind(of(and(b, always()), and(a, b, always())), or(some(0, and(a, b, always())), some(1, and(b, always())))), or(some(0, and(a, b)), some(1, b)), of(and(a, b), some(0, and(a, b)), some(1, b), or(some(0, and(a, b)), some(1, b)))},
		{behind(of(some(1, and(b, always())), some(0, and(a, always()))), or(some(0, and(a, always())), some(1, and(b, always())))), or(some(0, a), some(1, b)), of(some(1, b), some(0, a), or(some(0, a), some(1, b)))},
	})
}

// Again: an atom is itself; what is joined is joined anew, and simpler; a quantifier is bound anew.
func TestP94EveryKind(t *testing.T) {
	a, b, c, e := x(1, 0), x(1, -3), y(1, 0), div(2, 0, p(0, 1))
	makeAll(t, "Again", []making{
		{never(), never(), nil}, {always(), always(), nil}, {a, a, nil}, {e, e, nil}, {not(2, 0, p(0, 1)), not(2, 0, p(0, 1)), nil},
		{and(a, c), and(a, c), nil}, {or(a, c), or(a, c), nil}, {some(0, and(a, c)), some(0, and(a, c)), nil}, {all(3, or(a, c)), all(3, or(a, c)), nil}, {some(0, never()), some(0, never()), nil}, {and(or(a, c), e), and(or(a, c), e), nil},
		{and(a, b), b, nil}, {or(a, b), a, nil}, {and(b, x(-1, 2)), never(), nil}, {or(a, x(-1, 2)), always(), nil}, {and(e, not(2, 0, p(0, 1))), never(), nil}, {or(e, not(2, 0, p(0, 1))), always(), nil},
		{and(a, and(c, e)), and(a, c, e), of(and(a, c, e))}, {or(a, or(c, e)), or(a, c, e), of(or(a, c, e))}, {and(a, or(a, c)), a, nil}, {or(a, and(a, c)), a, nil}, {and(a, always()), a, nil}, {or(a, always()), always(), nil},
		// One behind the other: what came of kids is joined.
		{or(and(a, b), c), or(b, c), of(or(b, c))}, {and(or(a, b), c), and(a, c), of(and(a, c))}, {and(or(a, always()), c), c, nil}, {or(and(a, never()), c), c, nil}, {and(or(a, b), or(and(e, and(a, always())), c)), and(a, or(and(e, a), c)), of(and(a, e), or(and(e, a), c), and(a, or(and(e, a), c)))},
		{some(0, and(a, and(c, e))), some(0, and(a, c, e)), of(and(a, c, e), some(0, and(a, c, e)))}, {all(0, or(a, b)), all(0, a), of(all(0, a))}, {some(0, and(b, x(-1, 2))), some(0, never()), of(some(0, never()))},
		{some(0, all(1, some(0, or(a, b)))), some(0, all(1, some(0, a))), of(some(0, a), all(1, some(0, a)), some(0, all(1, some(0, a))))},
		{and(some(0, or(a, b)), some(0, a)), some(0, a), nil}, {or(all(0, or(a, b)), all(0, or(b, c)), c), or(all(0, a), all(0, or(b, c)), c), of(all(0, a), or(all(0, a), all(0, or(b, c)), c))},
	})
}

// A number of no node is ErrNode, ahead of all else, and nothing is made.
func TestErrNode(t *testing.T) {
	a := arena.New(nil)
	layAll(a, of(x(1, 0), x(-1, 0), div(2, 0, p(0, 1)), some(0, x(1, 0))))
	a.Release(a.Len() - 1)
	was := tellArena(a)
	for _, no := range []int{-1, -2, least, a.Len(), a.Len() + 1, 2002, most} {
		for _, ids := range [][]int{{no}, {no, 2}, {2, no}, {2, 4, no, 4}, {0, no}, {no, 0}, {1, no}, {no, 1}, {no, no}, {2, 3, no}, {no, 3, 2}} {
			for _, name := range []string{"And", "Or"} {
				if got, e := (call{name, ids}).do(a); got != 0 || e != api.ErrNode {
					t.Errorf("%s%s: %d, %v", name, tellList(ids), got, e)
				}
			}
		}
		for _, name := range []string{"Negate", "Again"} {
			if got, e := (call{name, []int{no}}).do(a); got != 0 || e != api.ErrNode {
				t.Errorf("%s(%d): %d, %v", name, no, got, e)
			}
		}
	}
	if tellArena(a) != was {
		t.Errorf("something was made: %s", tellArena(a))
	}
}

// An error of the arena is answered, of whichever call; what was made on the way stays. What is there, or needs no node,
// is answered even then; a number of no node is told ahead.
func TestErrorsOfTheArena(t *testing.T) {
	a, b, c := x(1, 0), y(1, 0), less(0, p(2, 1))
	for _, over := range []api.Errno{api.ErrNodes, api.ErrLimbs} {
		s := arena.New(meterOf(t, 9, 1))
		ids := layAll(s, of(a, b, c, and(a, b), or(a, b), some(0, a), x(-1, 1), x(1, -1), and(and(a, b), c)))
		if over == api.ErrLimbs {
			s.Atom(api.Atom{Kind: api.Less, T: api.Term{Parts: []api.Part{p(0, 1)}, K: wide(2)}})
		} else {
			s.Bind(api.All, 0, 2)
		}
		was := tellArena(s)
		for _, l := range []struct {
			call call
			want int
			e    api.Errno
		}{
			{call{"And", []int{ids[0], ids[2]}}, 0, over}, {call{"Or", []int{ids[0], ids[2]}}, 0, over}, {call{"And", []int{ids[3], ids[2]}}, 0, over}, {call{"Negate", []int{ids[1]}}, 0, over}, {call{"Negate", []int{ids[3]}}, 0, over},
			{call{"Negate", []int{ids[5]}}, 0, over}, {call{"Again", []int{ids[8]}}, 0, over}, {call{"And", nil}, 1, api.OK}, {call{"Or", nil}, 0, api.OK}, {call{"And", []int{ids[0], 0, ids[2]}}, 0, api.OK}, {call{"Or", []int{ids[0], 1, ids[2]}}, 1, api.OK},
			{call{"And", []int{ids[1], ids[0]}}, ids[3], api.OK}, {call{"Or", []int{ids[1], ids[0]}}, ids[4], api.OK}, {call{"And", []int{ids[0], ids[7]}}, ids[7], api.OK}, {call{"And", []int{ids[0], ids[6]}}, 0, api.OK}, {call{"Or", []int{ids[0], ids[6]}}, 1, api.OK},
			{call{"Negate", []int{ids[0]}}, ids[6], api.OK}, {call{"Negate", []int{0}}, 1, api.OK}, {call{"Again", []int{ids[3]}}, ids[3], api.OK}, {call{"Again", []int{ids[5]}}, ids[5], api.OK},
			{call{"And", []int{ids[0], ids[2], s.Len()}}, 0, api.ErrNode}, {call{"Or", []int{-1, ids[0], ids[2]}}, 0, api.ErrNode}, {call{"Negate", []int{s.Len()}}, 0, api.ErrNode}, {call{"Again", []int{-1}}, 0, api.ErrNode},
		} {
			if got, e := l.call.do(s); got != l.want || e != l.e {
				t.Errorf("%v: %s: %d, %v, want %d, %v", over, l.call, got, e, l.want, l.e)
			}
		}
		if tellArena(s) != was {
			t.Errorf("%v: something was made: %s", over, tellArena(s))
		}
	}
}

// An opposite may have a number of more limbs than may be: what was made ahead of it stays.
func TestP93Limbs(t *testing.T) {
	for limbs := 1; limbs <= api.MaxLimbs; limbs++ {
		low, high := bigLess(opposite(widest(limbs)), p(0, 1)), bigLess(widest(limbs), p(0, -1))
		s := arena.New(meterOf(t, 100, limbs))
		if got, e := simp.Negate(s, high(s)); e != api.OK || got != 3 || s.Len() != 4 {
			t.Errorf("%d limbs: %d, %v", limbs, got, e)
		}
		s = arena.New(meterOf(t, 100, limbs))
		id := and(y(1, 0), low, or(div(2, 0, p(0, 1)), y(1, 4)))(s)
		was := s.Len()
		if got, e := simp.Negate(s, id); got != 0 || e != api.ErrLimbs || s.Len() != was+1 || y(-1, 1)(s) != was || s.Meter().Over() != e {
			t.Errorf("%d limbs: %d, %v, %d made", limbs, got, e, s.Len()-was)
		}
	}
}
