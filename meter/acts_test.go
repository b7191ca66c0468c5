package meter_test

import (
	"math"
	"slices"
	"strconv"
	"strings"
	"testing"

	"riddle/api"
	"riddle/meter"
)

const (
	top  = 1<<32 - 1
	most = math.MaxInt
	// drawn is how many rows of calls a test draws.
	drawn = 3000
)

func above(limbs ...uint32) api.Int { return api.Int{Mag: limbs} }

func below(limbs ...uint32) api.Int { return api.Int{Neg: true, Mag: limbs} }

// wide is a number of just so many limbs, as small as such a one can be.
func wide(limbs int) api.Int {
	if limbs == 0 {
		return api.Int{}
	}
	return above(append(make([]uint32, limbs-1), 1)...)
}

// widest is the greatest number of just so many limbs.
func widest(limbs int) api.Int { return above(slices.Repeat([]uint32{top}, limbs)...) }

// noughts is the same number with noughts at its end.
func noughts(a api.Int, more int) api.Int {
	return api.Int{Neg: a.Neg, Mag: append(slices.Clone(a.Mag), make([]uint32, more)...)}
}

func opposite(a api.Int) api.Int { return api.Int{Neg: !a.Neg, Mag: a.Mag} }

const (
	isNode = iota
	isSpend
	isSpent
	isOver
)

// An act is a call of a meter, with all that it is given.
type act struct {
	kind    int
	numbers []api.Int
	n       int
}

func node(l ...api.Int) act { return act{kind: isNode, numbers: l} }

func spend(n int) act { return act{kind: isSpend, n: n} }

func spent() act { return act{kind: isSpent} }

func over() act { return act{kind: isOver} }

// do is what the meter answers, an error by its number.
func (a act) do(m *meter.Meter) int {
	switch a.kind {
	case isNode:
		return int(m.Node(a.numbers...))
	case isSpend:
		return int(m.Spend(a.n))
	case isSpent:
		return m.Spent()
	}
	return int(m.Over())
}

func (a act) String() string {
	switch a.kind {
	case isNode:
		var numbers []string
		for _, n := range a.numbers {
			numbers = append(numbers, tellInt(n))
		}
		return "Node(" + strings.Join(numbers, ", ") + ")"
	case isSpend:
		return "Spend(" + strconv.Itoa(a.n) + ")"
	case isSpent:
		return "Spent()"
	}
	return "Over()"
}

// tellInt is a number as it stands, limb by limb.
func tellInt(a api.Int) string {
	var b strings.Builder
	if a.Neg {
		b.WriteString("-")
	}
	for _, limb := range a.Mag {
		b.WriteString("'" + strconv.FormatUint(uint64(limb), 10))
	}
	return b.String()
}

// A slow meter does what the chapter says, word by word and without other hands; tests hold meters against it.
type slow struct {
	nodes, limbs, counted int
	crossed               api.Errno
}

func slowLimbs(a api.Int) int {
	limbs := 0
	for i, limb := range a.Mag {
		if limb != 0 {
			limbs = i + 1
		}
	}
	return limbs
}

func (s *slow) do(a act) int {
	switch a.kind {
	case isSpent:
		return s.counted
	case isOver:
		return int(s.crossed)
	}
	if s.crossed != api.OK {
		return int(s.crossed)
	}
	if a.kind == isSpend {
		return int(s.spend(a.n))
	}
	for _, n := range a.numbers {
		if slowLimbs(n) > s.limbs {
			s.crossed = api.ErrLimbs
			return int(s.crossed)
		}
	}
	return int(s.spend(1))
}

func (s *slow) spend(n int) api.Errno {
	switch {
	case n < 0:
		return api.ErrArg
	case n > s.nodes-s.counted:
		s.crossed = api.ErrNodes
		return s.crossed
	}
	s.counted += n
	return api.OK
}

func made(t *testing.T, nodes, limbs int) *meter.Meter {
	t.Helper()
	m, e := meter.New(nodes, limbs)
	if m == nil || e != api.OK {
		t.Fatalf("New(%d, %d): %v", nodes, limbs, e)
	}
	return m
}

// A dice draws numbers, always the same ones.
type dice struct{ state uint64 }

// roll is one of 0 to n - 1.
func (d *dice) roll(n int) int {
	d.state = d.state*6364136223846793005 + 1442695040888963407
	return int((d.state >> 33) % uint64(n))
}

// number is one of few limbs, often of just as many as a bound that is near.
func (d *dice) number(near int) api.Int {
	a := wide(d.roll(near + 1))
	if d.roll(12) == 0 {
		a = wide(near + 1 + d.roll(3))
	}
	if d.roll(2) == 0 {
		a = opposite(a)
	}
	return noughts(a, d.roll(3))
}

func (d *dice) act(nodes, limbs int) act {
	switch d.roll(8) {
	case 0:
		return spent()
	case 1:
		return over()
	case 2:
		return spend([]int{0, 1, -1, nodes, nodes + 1, nodes / 2, most, math.MinInt}[d.roll(8)])
	case 3, 4:
		return spend(d.roll(1 + nodes/4))
	}
	var l []api.Int
	for range d.roll(4) {
		l = append(l, d.number(limbs))
	}
	return node(l...)
}

// Calls that are drawn are answered as the slow meter does, whatever stands ahead of them.
func TestDrawnRows(t *testing.T) {
	d := &dice{state: 71}
	crossed := map[api.Errno]int{}
	for range drawn {
		nodes, limbs := 1+d.roll(20), 1+d.roll(api.MaxLimbs)
		m, s := made(t, nodes, limbs), &slow{nodes: nodes, limbs: limbs}
		row := ""
		for range 1 + d.roll(30) {
			a := d.act(nodes, limbs)
			row += " " + a.String()
			if got, want := a.do(m), s.do(a); got != want {
				t.Fatalf("New(%d, %d):%s: %d, want %d", nodes, limbs, row, got, want)
			}
			if m.Spent() != s.counted || m.Over() != s.crossed {
				t.Fatalf("New(%d, %d):%s: now %d, %v, want %d, %v", nodes, limbs, row, m.Spent(), m.Over(), s.counted, s.crossed)
			}
		}
		crossed[s.crossed]++
	}
	for _, e := range []api.Errno{api.OK, api.ErrNodes, api.ErrLimbs} {
		if crossed[e] < drawn/100 {
			t.Errorf("%d rows end with %v", crossed[e], e)
		}
	}
}
