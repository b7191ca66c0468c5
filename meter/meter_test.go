package meter_test

import (
	"math"
	"testing"

	"riddle/api"
	"riddle/meter"
)

const (
	ok       = int(api.OK)
	errArg   = int(api.ErrArg)
	errNodes = int(api.ErrNodes)
	errLimbs = int(api.ErrLimbs)
)

// A line is a call, and what the document asks of it.
type line struct {
	act  act
	want int
}

// follow does the calls of one meter, one behind the other.
func follow(t *testing.T, nodes, limbs int, lines ...line) {
	t.Helper()
	m := made(t, nodes, limbs)
	row := ""
	for _, l := range lines {
		row += " " + l.act.String()
		if got := l.act.do(m); got != l.want {
			t.Fatalf("New(%d, %d):%s: %d, want %d", nodes, limbs, row, got, l.want)
		}
	}
}

// repeated are n calls that are answered alike.
func repeated(n int, a act, want int) []line {
	var lines []line
	for range n {
		lines = append(lines, line{a, want})
	}
	return lines
}

func TestP71New(t *testing.T) {
	edges := []int{math.MinInt, -2000, -8, -1, 0, 1, 2, 7, 8, 9, 10, 1999, 2000, 2001, 2002, 4000, 1<<32 + 1, math.MaxInt}
	for _, nodes := range edges {
		for _, limbs := range edges {
			may := 1 <= nodes && nodes <= 2000 && 1 <= limbs && limbs <= 8
			m, e := meter.New(nodes, limbs)
			switch {
			case may && (m == nil || e != api.OK):
				t.Errorf("New(%d, %d): %v", nodes, limbs, e)
			case may && (m.Spent() != 0 || m.Over() != api.OK):
				t.Errorf("New(%d, %d): a new one has counted %d, crossed %v", nodes, limbs, m.Spent(), m.Over())
			case !may && (m != nil || e != api.ErrArg):
				t.Errorf("New(%d, %d): %v, %v, want nil and ErrArg", nodes, limbs, m, e)
			}
		}
	}
}

// Each bound is the one that was asked for, not another.
func TestP71Bounds(t *testing.T) {
	for _, nodes := range []int{1, 2, 3, 100, 1999, 2000} {
		for limbs := 1; limbs <= api.MaxLimbs; limbs++ {
			follow(t, nodes, limbs, line{node(widest(limbs)), ok}, line{spend(nodes - 1), ok}, line{spent(), nodes}, line{over(), ok}, line{node(), errNodes})
			follow(t, nodes, limbs, line{spend(nodes), ok}, line{spend(1), errNodes})
			follow(t, nodes, limbs, line{spend(nodes + 1), errNodes})
			follow(t, nodes, limbs, line{node(wide(limbs + 1)), errLimbs})
		}
	}
}

func TestExamples(t *testing.T) {
	follow(t, 3, 1,
		line{node(above(5), below(7)), ok}, line{spend(1), ok}, line{spent(), 2},
		line{spend(-1), errArg}, line{spend(2), errNodes}, line{spent(), 2}, line{over(), errNodes}, line{spend(0), errNodes}, line{node(), errNodes})
	follow(t, 1, 1, line{node(above(0, 1)), errLimbs}, line{over(), errLimbs}, line{spent(), 0}, line{spend(1), errLimbs})
	follow(t, 1, 1, line{node(above(5, 0)), ok}, line{node(above(0, 1)), errLimbs})
}

func TestP72NodesInARow(t *testing.T) {
	for _, nodes := range []int{1, 2, 3, 17, 1999, 2000} {
		m := made(t, nodes, 1)
		for i := range nodes {
			if e := m.Node(above(uint32(i)), below(top)); e != api.OK || m.Spent() != i+1 || m.Over() != api.OK {
				t.Fatalf("the node %d of %d: %v, %d, %v", i+1, nodes, e, m.Spent(), m.Over())
			}
		}
		for range 3 {
			if e := m.Node(); e != api.ErrNodes || m.Spent() != nodes || m.Over() != api.ErrNodes {
				t.Fatalf("behind %d: %v, %d, %v", nodes, e, m.Spent(), m.Over())
			}
		}
	}
}

// What looks at the meter, and what counts nothing, leaves the last node to be made.
func TestP72TheLastNode(t *testing.T) {
	for _, last := range []act{node(), node(api.Int{}), node(below(1), above(2), above(3)), spend(1)} {
		follow(t, 2, 1, line{node(), ok}, line{spent(), 1}, line{over(), ok}, line{spend(0), ok}, line{spend(-1), errArg}, line{last, ok},
			line{spent(), 2}, line{over(), ok}, line{spend(0), ok}, line{spend(-1), errArg}, line{over(), ok}, line{last, errNodes}, line{over(), errNodes}, line{spent(), 2})
	}
}

func TestP72Limbs(t *testing.T) {
	for limbs := 1; limbs <= api.MaxLimbs; limbs++ {
		for _, a := range []api.Int{
			{}, below(), above(0, 0), below(0), noughts(api.Int{}, limbs), noughts(api.Int{}, limbs+1), noughts(below(), 20), above(1), below(top), wide(limbs), widest(limbs),
			opposite(wide(limbs)), opposite(widest(limbs)), noughts(wide(limbs), 1), noughts(opposite(widest(limbs)), 9), noughts(above(7), limbs),
		} {
			follow(t, 1, limbs, line{node(a), ok}, line{over(), ok}, line{spent(), 1})
		}
		for more := 1; more <= 9; more++ {
			for _, a := range []api.Int{wide(limbs + more), widest(limbs + more), opposite(wide(limbs + more)), noughts(wide(limbs+more), 3)} {
				follow(t, 1, limbs, line{node(a), errLimbs}, line{over(), errLimbs}, line{spent(), 0})
			}
		}
	}
}

// One number that is too long is enough, wherever it stands among the others.
func TestP72OneOfSeveral(t *testing.T) {
	for count := 1; count <= 6; count++ {
		var l []api.Int
		for i := range count {
			l = append(l, noughts(wide(i%3), i))
		}
		follow(t, 1, 2, line{node(l...), ok})
		for at := range count {
			with := append([]api.Int(nil), l...)
			with[at] = opposite(wide(3))
			follow(t, 9, 2, line{node(), ok}, line{node(with...), errLimbs}, line{over(), errLimbs}, line{spent(), 1}, line{node(), errLimbs})
		}
	}
	many := make([]api.Int, 5000)
	many[4999] = wide(9)
	follow(t, 1, 8, line{node(many[:4999]...), ok})
	follow(t, 1, 8, line{node(many...), errLimbs})
	follow(t, 1, 8, line{node(above(make([]uint32, 100000)...)), ok}, line{node(wide(100000)), errLimbs})
}

// However many numbers a node has, it is one node; so it is without any.
func TestP72OneNode(t *testing.T) {
	follow(t, 4, 1, line{node(), ok}, line{spent(), 1}, line{node([]api.Int{}...), ok}, line{spent(), 2}, line{node(make([]api.Int, 50)...), ok}, line{spent(), 3},
		line{node(above(3), above(3)), ok}, line{spent(), 4}, line{over(), ok})
}

func TestP72LimbsAheadOfNodes(t *testing.T) {
	follow(t, 1, 1, line{node(), ok}, line{node(wide(2)), errLimbs}, line{over(), errLimbs}, line{spent(), 1}, line{node(), errLimbs}, line{spend(1), errLimbs})
	follow(t, 5, 3, line{spend(5), ok}, line{node(wide(3), wide(4)), errLimbs}, line{over(), errLimbs}, line{spent(), 5})
	follow(t, 5, 3, line{spend(5), ok}, line{node(wide(3)), errNodes}, line{node(wide(4)), errNodes}, line{over(), errNodes}, line{spent(), 5})
}

func TestP73Spend(t *testing.T) {
	for _, nodes := range []int{1, 2, 9, 1999, 2000} {
		for _, ahead := range []int{0, 1, nodes / 2, nodes - 1, nodes} {
			left := nodes - ahead
			for _, n := range []int{0, 1, left - 1, left} {
				if n < 0 || n > left {
					continue
				}
				follow(t, nodes, 1, line{spend(ahead), ok}, line{spend(n), ok}, line{spent(), ahead + n}, line{over(), ok}, line{spend(left - n), ok}, line{spent(), nodes},
					line{over(), ok}, line{spend(1), errNodes})
			}
			for _, n := range []int{left + 1, left + 2, nodes + 1, 2001, 1<<32 - 1, 1 << 32, 1<<32 + 1, 1<<56 - 1, 1 << 56, 1<<62 + 1, most - nodes, most - 1, most} {
				follow(t, nodes, 1, line{spend(ahead), ok}, line{spend(n), errNodes}, line{spent(), ahead}, line{over(), errNodes}, line{spend(0), errNodes}, line{spent(), ahead})
			}
		}
	}
}

func TestP73BelowNought(t *testing.T) {
	for _, n := range []int{-1, -2, -70, -2000, -1 << 32, -1 << 56, math.MinInt + 1, math.MinInt} {
		wrong := line{spend(n), errArg}
		follow(t, 3, 1, wrong, line{over(), ok}, line{spent(), 0}, line{node(), ok}, wrong, line{spent(), 1}, line{spend(2), ok}, wrong, line{over(), ok}, line{spent(), 3})
		follow(t, 3, 1, line{spend(4), errNodes}, line{spend(n), errNodes}, line{over(), errNodes}, line{spent(), 0})
		follow(t, 3, 1, line{node(wide(2)), errLimbs}, line{spend(n), errLimbs}, line{over(), errLimbs}, line{spent(), 0})
	}
}

// What was crossed stays crossed, whatever is asked from then on, and nothing is counted any more.
func TestP73ForGood(t *testing.T) {
	asked := []act{
		node(), node(above(1)), node(wide(2)), node(api.Int{}, wide(9)), spend(0), spend(1), spend(2), spend(7), spend(8), spend(most), spend(-1), spend(math.MinInt),
	}
	for _, c := range []struct {
		by   act
		want int
	}{{spend(8), errNodes}, {spend(most), errNodes}, {node(wide(2)), errLimbs}, {node(above(1), widest(8)), errLimbs}} {
		lines := []line{{spend(2), ok}, {c.by, c.want}}
		for range 3 {
			for _, a := range asked {
				lines = append(lines, line{a, c.want}, line{over(), c.want}, line{spent(), 2})
			}
		}
		follow(t, 9, 1, lines...)
	}
}

func TestP74LookingChangesNothing(t *testing.T) {
	for _, a := range []act{spent(), over()} {
		follow(t, 2, 1, append(repeated(3000, a, 0), line{node(), ok}, line{spend(1), ok}, line{over(), ok}, line{spent(), 2}, line{node(), errNodes})...)
	}
	follow(t, 2, 1, append(append([]line{{spend(1), ok}}, repeated(10, spent(), 1)...), line{node(), ok}, line{spent(), 2})...)
	follow(t, 2, 1, append(append([]line{{spend(3), errNodes}}, repeated(10, over(), errNodes)...), line{spent(), 0})...)
}

func TestP76NeverFalls(t *testing.T) {
	d := &dice{state: 76}
	for range drawn {
		nodes, limbs := 1+d.roll(60), 1+d.roll(api.MaxLimbs)
		m, was := made(t, nodes, limbs), 0
		for range 40 {
			a := d.act(nodes, limbs)
			a.do(m)
			if now := m.Spent(); now < was || now > nodes {
				t.Fatalf("New(%d, %d): %s brings %d to %d", nodes, limbs, a, was, now)
			}
			was = m.Spent()
		}
	}
}
