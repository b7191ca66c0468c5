package unit_test

import (
	"slices"
	"strconv"
	"testing"

	"riddle/api"
	"riddle/arena"
	"riddle/simp"
	"riddle/unit"
	"riddle/zint"
)

// The slow calls do what the chapter says, word by word; tests hold the two against them.

// ways tells each node of a formula once for every way down to it.
func ways(a *arena.Arena, id int, tell func(node api.Node)) {
	node := whole(a, id)
	for _, kid := range node.Kids {
		ways(a, kid, tell)
	}
	tell(node)
}

// partOf is a variable's coefficient in a node's term, which stands as it should.
func partOf(t api.Term, v int) api.Int {
	for _, q := range t.Parts {
		if q.Var == v {
			return q.C
		}
	}
	return n(0)
}

func slowLcm(a *arena.Arena, id, v int) (api.Int, api.Errno) {
	if a == nil {
		return api.Int{}, api.ErrArg
	}
	if id < 0 || id >= a.Len() {
		return api.Int{}, api.ErrNode
	}
	plain, l := true, n(1)
	ways(a, id, func(node api.Node) {
		plain = plain && node.Kind != api.Some && node.Kind != api.All
		if c := partOf(node.T, v); zint.Sign(c) != 0 {
			l = joint(l, c)
		}
	})
	if !plain {
		return api.Int{}, api.ErrQuant
	}
	return l, api.OK
}

// joint is the least common multiple of two numbers: what is left of the one without what it has in common with the
// other, so many times the other one.
func joint(a, b api.Int) api.Int {
	left, _, _ := zint.DivMod(b, zint.Gcd(a, b))
	return zint.Abs(zint.Mul(a, left))
}

func slowUnit(a *arena.Arena, id, v int) (int, api.Int, api.Errno) {
	l, e := slowLcm(a, id, v)
	if e != api.OK {
		return 0, api.Int{}, e
	}
	came, e := slowTurn(a, id, v, l, map[int]int{0: 0, 1: 1})
	if e != api.OK {
		return 0, api.Int{}, e
	}
	if isInt(l, n(1)) {
		return came, l, api.OK
	}
	d, e := a.Atom(api.Atom{Kind: api.Div, D: l, T: api.Term{Parts: []api.Part{p(v, 1)}}})
	if e != api.OK {
		return 0, api.Int{}, e
	}
	came, e = simp.And(a, came, d)
	if e != api.OK {
		return 0, api.Int{}, e
	}
	return came, l, api.OK
}

func slowTurn(a *arena.Arena, id, v int, l api.Int, kept map[int]int) (int, api.Errno) {
	if came, is := kept[id]; is {
		return came, api.OK
	}
	node, kids := whole(a, id), []int{}
	for _, kid := range node.Kids {
		came, e := slowTurn(a, kid, v, l, kept)
		if e != api.OK {
			return 0, e
		}
		kids = append(kids, came)
	}
	var came int
	var e api.Errno
	switch node.Kind {
	case api.And:
		came, e = simp.And(a, kids...)
	case api.Or:
		came, e = simp.Or(a, kids...)
	default:
		came, e = a.Atom(slowBring(node, v, l))
	}
	kept[id] = came
	return came, e
}

// slowBring is m times an atom, part by part, where the variable's part, which is L or -L times it, is it or its opposite.
func slowBring(node api.Node, v int, l api.Int) api.Atom {
	c := partOf(node.T, v)
	if zint.Sign(c) == 0 {
		return api.Atom{Kind: node.Kind, D: node.D, T: node.T}
	}
	m, left, _ := zint.DivMod(l, zint.Abs(c))
	if zint.Sign(left) != 0 {
		panic("a coefficient that doesn't divide L")
	}
	brought := api.Atom{Kind: node.Kind, D: zint.Mul(node.D, m), T: api.Term{K: zint.Mul(node.T.K, m)}}
	for _, q := range node.T.Parts {
		times := zint.Mul(q.C, m)
		if q.Var == v {
			if !isInt(zint.Abs(times), l) {
				panic("neither L nor -L times the variable")
			}
			times = n(1)
			times.Neg = q.C.Neg
		}
		brought.T.Parts = append(brought.T.Parts, api.Part{Var: q.Var, C: times})
	}
	return brought
}

// A dice draws numbers, always the same ones. A small one draws small numbers, and the variables 0, 1 and 2 alone.
type dice struct {
	state uint64
	small bool
}

// roll is one of 0 to n - 1.
func (d *dice) roll(n int) int {
	d.state = d.state*6364136223846793005 + 1442695040888963407
	return int((d.state >> 33) % uint64(n))
}

// number is a small one mostly, rarely one of about so many limbs.
func (d *dice) number(limbs int) api.Int {
	if d.small || d.roll(12) > 0 {
		return n(d.roll(13) - 6)
	}
	a := widest(1 + d.roll(limbs))
	a.Mag[0] -= uint32(d.roll(4))
	a.Neg = d.roll(2) == 0
	return a
}

func variables() []int { return []int{0, 1, 2, 0, 1, 2, 3, most, least} }

func (d *dice) variable() int {
	if d.small {
		return d.roll(3)
	}
	return variables()[d.roll(len(variables()))]
}

func (d *dice) atom(limbs int) api.Atom {
	x := api.Atom{Kind: []int{api.Less, api.Less, api.Less, api.Div, api.Not}[d.roll(5)], D: n(2 + d.roll(8)), T: api.Term{K: d.number(limbs)}}
	if !d.small && d.roll(8) == 0 {
		x.D = widest(limbs)
	}
	for range 1 + d.roll(3) {
		x.T.Parts = append(x.T.Parts, api.Part{Var: d.variable(), C: d.number(limbs)})
	}
	return x
}

// among draws the number of a node.
func (d *dice) among(nodes int) int {
	if d.roll(4) == 0 {
		return d.roll(nodes)
	}
	return nodes - 1 - d.roll(min(nodes, 6))
}

// grow lays a node in an arena, if the meter lets it: an atom, or a formula above what is there, not made simpler. Where
// plain, it has no quantifier.
func (d *dice) grow(a *arena.Arena, limbs int, plain bool) {
	nodes := a.Len()
	switch d.roll(8) {
	case 0, 1, 2:
		a.Atom(d.atom(limbs))
	case 3:
		if !plain {
			a.Bind(api.Some+d.roll(2), d.variable(), d.among(nodes))
			return
		}
		fallthrough
	default:
		var kids []int
		for range 2 + d.roll(3) {
			kids = append(kids, d.among(nodes))
		}
		a.Join(api.And+d.roll(2), kids...)
	}
}

// grown is an arena with what was drawn there, from some atoms on. The same dice and the same bounds make the same one.
func grown(t *testing.T, d *dice, nodes, limbs int) *arena.Arena {
	t.Helper()
	a := arena.New(meterOf(t, nodes, limbs))
	plain := d.roll(4) > 0
	for range 1 + d.roll(4) {
		a.Atom(d.atom(limbs))
	}
	for range 2 + d.roll(16) {
		d.grow(a, limbs, plain)
	}
	return a
}

// twins are two arenas with the same formulas.
func twins(t *testing.T, d *dice, nodes, limbs int) (*arena.Arena, *arena.Arena) {
	t.Helper()
	twin := *d
	return grown(t, d, nodes, limbs), grown(t, &twin, nodes, limbs)
}

// An asking is a call that is drawn, with all that it is given but for the arena.
type asking struct{ id, v int }

func (q asking) String() string {
	return "of " + strconv.Itoa(q.id) + " and v" + strconv.Itoa(q.v)
}

// asking draws a call, rarely with a number of no node.
func (d *dice) asking(a *arena.Arena) asking {
	nodes := a.Len()
	q := asking{d.among(nodes), d.variable()}
	if free := a.Free(q.id); len(free) > 0 && d.roll(4) > 0 {
		q.v = free[d.roll(len(free))]
	}
	if d.roll(25) == 0 {
		q.id = []int{-1, nodes, nodes + 1, least, most}[d.roll(5)]
	}
	return q
}

// Calls that are drawn are answered as the slow ones are, and the arena is the same behind them: what was made, in which
// order, and what was counted.
func TestDrawnCalls(t *testing.T) {
	d := &dice{state: 131}
	refused, made, itself, above := map[api.Errno]int{}, 0, 0, 0
	for range 2 * drawn {
		a, b := twins(t, d, 8+d.roll(40), 1+d.roll(3))
		row := tellArena(a)
		for range 1 + d.roll(8) {
			q, was := d.asking(a), a.Len()
			row += "\n" + q.String()
			l, e := unit.Lcm(a, q.id, q.v)
			wantL, wantE := slowLcm(b, q.id, q.v)
			if !isInt(l, wantL) || e != wantE || tellArena(a) != tellArena(b) {
				t.Fatalf("%s: Lcm is %s, %v, want %s, %v", row, tellInt(l), e, tellInt(wantL), wantE)
			}
			got, l, e := unit.Unit(a, q.id, q.v)
			want, wantL, wantE := slowUnit(b, q.id, q.v)
			if got != want || !isInt(l, wantL) || e != wantE || tellArena(a) != tellArena(b) {
				t.Fatalf("%s: %d, %s, %v, want %d, %s, %v\n%s\nwant\n%s", row, got, tellInt(l), e, want, tellInt(wantL), wantE, tellArena(a), tellArena(b))
			}
			refused[e]++
			made += a.Len() - was
			if e == api.OK && got == q.id {
				itself++
			}
			if e == api.OK && !isInt(l, n(1)) {
				above++
			}
		}
	}
	// What was drawn has all that the test is for.
	if slices.Min([]int{refused[api.ErrNode], refused[api.ErrQuant], refused[api.ErrNodes], refused[api.ErrLimbs], itself, above}) < drawn/10 || made < drawn {
		t.Errorf("refused %v, %d made, %d themselves, %d with an L above 1", refused, made, itself, above)
	}
}
