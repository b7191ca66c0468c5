package limit_test

import (
	"cmp"
	"slices"
	"strconv"
	"testing"

	"riddle/api"
	"riddle/arena"
	"riddle/limit"
	"riddle/simp"
	"riddle/zint"
)

// The slow calls do what the chapter says, word by word; tests hold the four against them.

// ways tells each node of a formula once for every way down to it.
func ways(a *arena.Arena, id int, tell func(node api.Node)) {
	node := whole(a, id)
	for _, kid := range node.Kids {
		ways(a, kid, tell)
	}
	tell(node)
}

// partOf is a variable's coefficient in a node's term, which stands as it should.
func partOf(t api.Term, v int) api.Int {
	for _, q := range t.Parts {
		if q.Var == v {
			return q.C
		}
	}
	return n(0)
}

// slowError is the error that each of the calls has.
func slowError(a *arena.Arena, id int) api.Errno {
	if a == nil {
		return api.ErrArg
	}
	if id < 0 || id >= a.Len() {
		return api.ErrNode
	}
	e := api.OK
	ways(a, id, func(node api.Node) {
		if node.Kind == api.Some || node.Kind == api.All {
			e = api.ErrQuant
		}
	})
	return e
}

// slowFar is the formula where a Less with the variable is one constant, if the coefficient is above 0, the other one, if
// it is below.
func slowFar(a *arena.Arena, id, v, above, below int) (int, api.Errno) {
	if e := slowError(a, id); e != api.OK {
		return 0, e
	}
	return slowTurn(a, id, func(node api.Node) (int, bool) {
		c := partOf(node.T, v)
		switch {
		case node.Kind != api.Less || len(c.Mag) == 0:
			return 0, false
		case c.Neg:
			return below, true
		}
		return above, true
	}, map[int]int{})
}

func slowTurn(a *arena.Arena, id int, turn func(node api.Node) (int, bool), kept map[int]int) (int, api.Errno) {
	if came, is := kept[id]; is {
		return came, api.OK
	}
	node, kids := whole(a, id), []int{}
	for _, kid := range node.Kids {
		came, e := slowTurn(a, kid, turn, kept)
		if e != api.OK {
			return 0, e
		}
		kids = append(kids, came)
	}
	came, e := id, api.OK
	switch node.Kind {
	case api.And:
		came, e = simp.And(a, kids...)
	case api.Or:
		came, e = simp.Or(a, kids...)
	default:
		if constant, is := turn(node); is {
			came = constant
		}
	}
	kept[id] = came
	return came, e
}

func slowBounds(a *arena.Arena, id, v int) (lower, upper []api.Term, e api.Errno) {
	if e := slowError(a, id); e != api.OK {
		return nil, nil, e
	}
	ways(a, id, func(node api.Node) {
		c := partOf(node.T, v)
		if node.Kind != api.Less || isInt(c, n(0)) {
			return
		}
		switch {
		case isInt(c, n(1)):
			lower = slowAdd(lower, node.T, v, opposite)
		case isInt(c, n(-1)):
			upper = slowAdd(upper, node.T, v, func(a api.Int) api.Int { return a })
		default:
			e = api.ErrArg
		}
	})
	if e != api.OK {
		return nil, nil, e
	}
	return lower, upper, api.OK
}

// slowAdd puts the term without the variable, each of its numbers turned, into its place among bounds, unless it is there.
func slowAdd(l []api.Term, t api.Term, v int, turn func(a api.Int) api.Int) []api.Term {
	bound := api.Term{K: turn(t.K)}
	for _, q := range t.Parts {
		if q.Var != v {
			bound.Parts = append(bound.Parts, api.Part{Var: q.Var, C: turn(q.C)})
		}
	}
	for at, other := range l {
		switch slowOrder(bound, other) {
		case 0:
			return l
		case -1:
			return slices.Insert(l, at, bound)
		}
	}
	return append(l, bound)
}

// slowOrder is the order of terms that stand as they should.
func slowOrder(a, b api.Term) int {
	for i, q := range a.Parts {
		if i == len(b.Parts) {
			return 1
		}
		if order := cmp.Or(cmp.Compare(q.Var, b.Parts[i].Var), zint.Cmp(q.C, b.Parts[i].C)); order != 0 {
			return order
		}
	}
	if len(b.Parts) > len(a.Parts) {
		return -1
	}
	return zint.Cmp(a.K, b.K)
}

func slowDelta(a *arena.Arena, id, v int) (api.Int, api.Errno) {
	if e := slowError(a, id); e != api.OK {
		return api.Int{}, e
	}
	d := n(1)
	ways(a, id, func(node api.Node) {
		if (node.Kind == api.Div || node.Kind == api.Not) && !isInt(partOf(node.T, v), n(0)) {
			d = joint(d, node.D)
		}
	})
	return d, api.OK
}

// joint is the least common multiple of two numbers: what is left of the one without what it has in common with the
// other, so many times the other one.
func joint(a, b api.Int) api.Int {
	left, _, _ := zint.DivMod(b, zint.Gcd(a, b))
	return zint.Abs(zint.Mul(a, left))
}

// A dice draws numbers, always the same ones. A small one draws small numbers, and the variables 0, 1 and 2 alone.
type dice struct {
	state uint64
	small bool
}

// roll is one of 0 to n - 1.
func (d *dice) roll(n int) int {
	d.state = d.state*6364136223846793005 + 1442695040888963407
	return int((d.state >> 33) % uint64(n))
}

// number is a small one mostly, rarely one of about so many limbs.
func (d *dice) number(limbs int) api.Int {
	if d.small || d.roll(12) > 0 {
		return n(d.roll(13) - 6)
	}
	a := widest(1 + d.roll(limbs))
	a.Mag[0] -= uint32(d.roll(4))
	a.Neg = d.roll(2) == 0
	return a
}

// coefficient is 1 or -1 mostly: formulas with other ones have no bounds.
func (d *dice) coefficient(limbs int) api.Int {
	if d.roll(16) > 0 {
		return n(2*d.roll(2) - 1)
	}
	return d.number(limbs)
}

func variables() []int { return []int{0, 1, 2, 0, 1, 0, 0, 3, most, least} }

func (d *dice) variable() int {
	if d.small {
		return d.roll(3)
	}
	return variables()[d.roll(len(variables()))]
}

func (d *dice) atom(limbs int) api.Atom {
	x := api.Atom{Kind: []int{api.Less, api.Less, api.Less, api.Div, api.Not}[d.roll(5)], D: n(2 + d.roll(8)), T: api.Term{K: d.number(limbs)}}
	if !d.small && d.roll(8) == 0 {
		x.D = widest(limbs)
	}
	for range 1 + d.roll(3) {
		x.T.Parts = append(x.T.Parts, api.Part{Var: d.variable(), C: d.coefficient(limbs)})
	}
	return x
}

// among draws the number of a node.
func (d *dice) among(nodes int) int {
	if d.roll(2) == 0 {
		return d.roll(nodes)
	}
	return nodes - 1 - d.roll(min(nodes, 6))
}

// grow lays a node in an arena, if the meter lets it: an atom, or a formula above what is there, not made simpler. Where
// plain, it has no quantifier.
func (d *dice) grow(a *arena.Arena, limbs int, plain bool) {
	nodes := a.Len()
	switch d.roll(8) {
	case 0, 1, 2:
		a.Atom(d.atom(limbs))
	case 3:
		if !plain {
			a.Bind(api.Some+d.roll(2), d.variable(), d.among(nodes))
			return
		}
		fallthrough
	default:
		var kids []int
		for range 2 + d.roll(5) {
			kids = append(kids, d.among(nodes))
		}
		a.Join(api.And+d.roll(2), kids...)
	}
}

// grown is an arena with what was drawn there, from some atoms on. The same dice and the same bounds make the same one.
func grown(t *testing.T, d *dice, nodes, limbs int) *arena.Arena {
	t.Helper()
	a := arena.New(meterOf(t, nodes, limbs))
	plain := d.roll(4) > 0
	for range 1 + d.roll(16) {
		a.Atom(d.atom(limbs))
	}
	for range 2 + d.roll(14) {
		d.grow(a, limbs, plain)
	}
	// Above all of these stands a formula with many atoms.
	var kids []int
	for range 2 + d.roll(16) {
		kids = append(kids, d.roll(a.Len()))
	}
	a.Join(api.And+d.roll(2), kids...)
	return a
}

// twins are two arenas with the same formulas.
func twins(t *testing.T, d *dice, nodes, limbs int) (*arena.Arena, *arena.Arena) {
	t.Helper()
	twin := *d
	return grown(t, d, nodes, limbs), grown(t, &twin, nodes, limbs)
}

// An asking is a call that is drawn, with all that it is given but for the arena.
type asking struct{ id, v int }

func (q asking) String() string {
	return "of " + strconv.Itoa(q.id) + " and v" + strconv.Itoa(q.v)
}

// asking draws a call, mostly of the last node, rarely with a number of no node.
func (d *dice) asking(a *arena.Arena) asking {
	nodes := a.Len()
	q := asking{nodes - 1, d.variable()}
	if d.roll(3) == 0 {
		q.id = d.roll(nodes)
	}
	if free := a.Free(q.id); len(free) > 0 && d.roll(2) > 0 {
		q.v = free[d.roll(len(free))]
	}
	if d.roll(25) == 0 {
		q.id = []int{-1, nodes, nodes + 1, least, most}[d.roll(5)]
	}
	return q
}

// Calls that are drawn are answered as the slow ones are, and the arena is the same behind them: what was made, in which
// order, and what was counted.
func TestDrawnCalls(t *testing.T) {
	d := &dice{state: 141}
	refused, made, itself, other := map[api.Errno]int{}, 0, 0, 0
	for range 2 * drawn {
		a, b := twins(t, d, 8+d.roll(30), 1+d.roll(3))
		if d.roll(8) == 0 {
			a.Atom(api.Atom{Kind: api.Less, T: bigSum(wide(9), p(0, 1))})
			b.Atom(api.Atom{Kind: api.Less, T: bigSum(wide(9), p(0, 1))})
		}
		row := tellArena(a)
		for range 1 + d.roll(8) {
			q, was := d.asking(a), a.Len()
			row += "\n" + q.String()
			got, e := limit.Low(a, q.id, q.v)
			want, wantE := slowFar(b, q.id, q.v, 0, 1)
			if d.roll(2) == 0 {
				got, e = limit.High(a, q.id, q.v)
				want, wantE = slowFar(b, q.id, q.v, 1, 0)
			}
			if got != want || e != wantE || tellArena(a) != tellArena(b) {
				t.Fatalf("%s: %d, %v, want %d, %v\n%s\nwant\n%s", row, got, e, want, wantE, tellArena(a), tellArena(b))
			}
			refused[e]++
			made += a.Len() - was
			switch {
			case e != api.OK:
			case got == q.id:
				itself++
			case got > 1:
				other++
			}
		}
	}
	// What was drawn has all that the test is for.
	if slices.Min([]int{refused[api.ErrNode], refused[api.ErrQuant], refused[api.ErrNodes], refused[api.ErrLimbs], itself, other}) < drawn/10 || made < drawn/2 {
		t.Errorf("refused %v, %d made, %d themselves, %d others", refused, made, itself, other)
	}
}

// So are those that make nothing.
func TestDrawnBounds(t *testing.T) {
	d := &dice{state: 142}
	refused, several, both, above := map[api.Errno]int{}, 0, 0, 0
	for range 2 * drawn {
		a := grown(t, d, 8+d.roll(40), 1+d.roll(3))
		was := tellArena(a)
		for range 1 + d.roll(8) {
			q := d.asking(a)
			lower, upper, e := limit.Bounds(a, q.id, q.v)
			wantLower, wantUpper, wantE := slowBounds(a, q.id, q.v)
			if !areTerms(lower, wantLower) || !areTerms(upper, wantUpper) || e != wantE {
				t.Fatalf("%s: %s, %s, %v, want %s, %s, %v, in\n%s", q, tellTerms(lower), tellTerms(upper), e, tellTerms(wantLower), tellTerms(wantUpper), wantE, was)
			}
			delta, e2 := limit.Delta(a, q.id, q.v)
			wantDelta, wantE2 := slowDelta(a, q.id, q.v)
			if !isInt(delta, wantDelta) || e2 != wantE2 {
				t.Fatalf("%s: %s, %v, want %s, %v, in\n%s", q, tellInt(delta), e2, tellInt(wantDelta), wantE2, was)
			}
			refused[e]++
			if max(len(lower), len(upper)) > 2 {
				several++
			}
			if min(len(lower), len(upper)) > 0 {
				both++
			}
			if e == api.OK && !isInt(delta, n(1)) {
				above++
			}
		}
		if tellArena(a) != was {
			t.Fatalf("something was made: %s\nwas\n%s", tellArena(a), was)
		}
	}
	if slices.Min([]int{refused[api.ErrNode], refused[api.ErrQuant], refused[api.ErrArg], several, both, above}) < drawn/10 {
		t.Errorf("refused %v, %d with several, %d with both, %d with a Delta above 1", refused, several, both, above)
	}
}
