package elim_test

import (
	"slices"
	"strconv"
	"testing"

	"riddle/api"
	"riddle/arena"
	"riddle/limit"
	"riddle/simp"
	"riddle/subst"
	"riddle/unit"
	"riddle/zint"
)

// The slow calls do what the chapter says, word by word, with all test points told ahead; tests hold the two against them.

// finds tells whether a node of a formula is of a kind, by every way down.
func finds(a *arena.Arena, id int, is func(node api.Node) bool) bool {
	node := whole(a, id)
	return is(node) || slices.ContainsFunc(node.Kids, func(kid int) bool { return finds(a, kid, is) })
}

func slowError(a *arena.Arena, id int) api.Errno {
	switch {
	case a == nil:
		return api.ErrArg
	case id < 0 || id >= a.Len():
		return api.ErrNode
	case finds(a, id, func(node api.Node) bool { return node.Kind == api.Some || node.Kind == api.All }):
		return api.ErrQuant
	}
	return api.OK
}

// hasPart tells whether a variable is in an atom of a plain formula.
func hasPart(a *arena.Arena, id, v int) bool {
	return finds(a, id, func(node api.Node) bool {
		return slices.ContainsFunc(node.T.Parts, func(q api.Part) bool { return q.Var == v })
	})
}

// A place is a test point with the formula into which it is put.
type place struct {
	of int
	t  api.Term
}

// slowPlaces are all test points, but for those behind more than a meter lets through.
func slowPlaces(u, m int, far bool, bounds []api.Term, delta api.Int, sign int) []place {
	period := api.MaxNodes + 1
	if k, is := zint.Int64(delta); is {
		period = int(min(k, int64(period)))
	}
	var l []place
	for j := 1; j <= period && (j == 1 || far); j++ {
		l = append(l, place{m, api.Term{K: n(sign * j)}})
	}
	for _, b := range bounds {
		for j := 1; j <= period && len(l) <= api.MaxNodes; j++ {
			l = append(l, place{u, api.Term{Parts: b.Parts, K: zint.Add(b.K, n(sign*j))}})
		}
	}
	return l
}

func slowSome(a *arena.Arena, id, v int) answer {
	if e := slowError(a, id); e != api.OK {
		return answer{e: e}
	}
	if !hasPart(a, id, v) {
		return answer{id, api.Step{Var: v}, api.OK}
	}
	u, l, e := unit.Unit(a, id, v)
	if e != api.OK {
		return answer{e: e}
	}
	step := api.Step{Var: v, L: l, Delta: laidInt(limit.Delta(a, u, v))}
	bounds, upper, e := limit.Bounds(a, u, v)
	if e != api.OK {
		panic(e)
	}
	far, sign := limit.Low, 1
	if len(upper) < len(bounds) {
		far, sign, bounds, step.High = limit.High, -1, upper, true
	}
	step.Bounds = len(bounds)
	m, e := far(a, u, v)
	if e != api.OK {
		return answer{e: e}
	}
	return slowLook(a, v, step, slowPlaces(u, m, hasPart(a, m, v), bounds, step.Delta, sign))
}

func laidInt(k api.Int, e api.Errno) api.Int {
	if e != api.OK {
		panic(e)
	}
	return k
}

func slowLook(a *arena.Arena, v int, step api.Step, l []place) answer {
	var ids []int
	for _, one := range l {
		if e := a.Meter().Spend(1); e != api.OK {
			return answer{e: e}
		}
		step.Points++
		id, e := subst.Put(a, one.of, v, one.t)
		if e != api.OK {
			return answer{e: e}
		}
		if id == 1 {
			return answer{1, step, api.OK}
		}
		ids = append(ids, id)
	}
	id, e := simp.Or(a, ids...)
	if e != api.OK {
		return answer{e: e}
	}
	return answer{id, step, api.OK}
}

func slowAll(a *arena.Arena, id, v int) answer {
	if e := slowError(a, id); e != api.OK {
		return answer{e: e}
	}
	other, e := simp.Negate(a, id)
	if e != api.OK {
		return answer{e: e}
	}
	got := slowSome(a, other, v)
	if got.e != api.OK {
		return got
	}
	back, e := simp.Negate(a, got.id)
	if e != api.OK {
		return answer{e: e}
	}
	return answer{back, got.step, api.OK}
}

// A dice draws numbers, always the same ones. A small one draws small numbers, and the variables 0, 1 and 2 alone.
type dice struct {
	state uint64
	small bool
}

// roll is one of 0 to n - 1.
func (d *dice) roll(n int) int {
	d.state = d.state*6364136223846793005 + 1442695040888963407
	return int((d.state >> 33) % uint64(n))
}

// number is a small one mostly, rarely one of about so many limbs.
func (d *dice) number(limbs int) api.Int {
	if d.small || d.roll(12) > 0 {
		return n(d.roll(13) - 6)
	}
	a := widest(1+d.roll(limbs), d.roll(4))
	a.Neg = d.roll(2) == 0
	return a
}

// coefficient is 1 or -1 mostly: with many others L becomes great.
func (d *dice) coefficient() api.Int {
	if d.roll(6) > 0 {
		return n(2*d.roll(2) - 1)
	}
	return n(d.roll(7) - 3)
}

func variables() []int { return []int{0, 1, 2, 0, 1, 0, 0, 3, most, least} }

func (d *dice) variable() int {
	if d.small {
		return d.roll(3)
	}
	return variables()[d.roll(len(variables()))]
}

func (d *dice) atom(limbs int) api.Atom {
	x := api.Atom{Kind: []int{api.Less, api.Less, api.Less, api.Less, api.Div, api.Not}[d.roll(6)], D: n(2 + d.roll(3)), T: api.Term{K: d.number(limbs)}}
	if !d.small && d.roll(30) == 0 {
		x.D = widest(limbs, 0)
	}
	for range 1 + d.roll(3) {
		x.T.Parts = append(x.T.Parts, api.Part{Var: d.variable(), C: d.coefficient()})
	}
	return x
}

// grow lays a node in an arena, if the meter lets it: an atom, or a formula above what is there, not made simpler. Where
// plain, it has no quantifier.
func (d *dice) grow(a *arena.Arena, limbs int, plain bool) {
	switch d.roll(8) {
	case 0, 1:
		a.Atom(d.atom(limbs))
	case 2:
		if !plain {
			a.Bind(api.Some+d.roll(2), d.variable(), d.among(a.Len()))
			return
		}
		fallthrough
	default:
		a.Join(api.And+d.roll(2), d.several(a, 2+d.roll(3))...)
	}
}

// among draws the number of a node, mostly of no constant.
func (d *dice) among(nodes int) int {
	if nodes < 4 || d.roll(20) == 0 {
		return d.roll(nodes)
	}
	return 2 + d.roll(nodes-2)
}

func (d *dice) several(a *arena.Arena, many int) []int {
	var ids []int
	for range many {
		ids = append(ids, d.among(a.Len()))
	}
	return ids
}

// bound draws a Less that tells a bound of v0.
func (d *dice) bound(limbs int) api.Atom {
	parts := []api.Part{p(0, 2*d.roll(2)-1), {Var: d.variable(), C: d.coefficient()}}
	return api.Atom{Kind: api.Less, T: api.Term{Parts: parts, K: d.number(limbs)}}
}

// grown is an arena with what was drawn there, from some atoms on. The same dice and the same bounds make the same one.
func grown(t *testing.T, d *dice, nodes, limbs int) *arena.Arena {
	t.Helper()
	a := arena.New(meterOf(t, nodes, limbs))
	plain := d.roll(6) > 0
	for range 1 + d.roll(8) {
		a.Atom(d.atom(limbs))
	}
	if d.roll(2) == 0 {
		for range 4 + d.roll(8) {
			a.Atom(d.bound(limbs))
		}
	}
	for range d.roll(5) {
		d.grow(a, limbs, plain)
	}
	// Far away an And is false mostly, so that the bounds are looked at.
	if d.roll(4) > 0 {
		a.Join(api.And, d.several(a, 4+d.roll(8))...)
	}
	return a
}

// twins are two arenas with the same formulas.
func twins(t *testing.T, d *dice, nodes, limbs int) (*arena.Arena, *arena.Arena) {
	t.Helper()
	twin := *d
	return grown(t, d, nodes, limbs), grown(t, &twin, nodes, limbs)
}

// An asking is a call that is drawn, with all that it is given but for the arena.
type asking struct {
	call
	id, v int
}

func (q asking) String() string {
	return q.name + " of " + strconv.Itoa(q.id) + " and v" + strconv.Itoa(q.v)
}

func (q asking) ask(a *arena.Arena) answer { return q.answer(a, q.id, q.v) }

// slow is what the slow call answers.
func (q asking) slow(a *arena.Arena) answer {
	if q.name == "All" {
		return slowAll(a, q.id, q.v)
	}
	return slowSome(a, q.id, q.v)
}

// asking draws a call, mostly of the last node and a variable that is free there, rarely with a number of no node.
func (d *dice) asking(a *arena.Arena) asking {
	nodes := a.Len()
	q := asking{calls()[d.roll(4)/3], nodes - 1, d.variable()}
	if d.roll(4) == 0 {
		q.id = d.roll(nodes)
	}
	if free := a.Free(q.id); len(free) > 0 && d.roll(4) > 0 {
		q.v = free[d.roll(len(free))]
	}
	if d.roll(25) == 0 {
		q.id = []int{-1, nodes, nodes + 1, least, most}[d.roll(5)]
	}
	return q
}

// counts are how often what a test is for was drawn.
type counts map[string]int

// count looks at an answer that is no refusal.
func (c counts) count(a *arena.Arena, s answer) {
	seen := func(what string, is bool) {
		if is {
			c[what]++
		}
	}
	one := zint.Of(1)
	seen("not free", s.step.Points == 0)
	seen("one point", s.step.Points == 1)
	seen("several points", s.step.Points > 1)
	seen("low", !s.step.High && s.step.Bounds > 0)
	seen("high", s.step.High && s.step.Bounds > 0)
	seen("several bounds", s.step.Bounds > 1)
	seen("no bounds", s.step.Bounds == 0 && s.step.Points > 1)
	seen("L", zint.Cmp(s.step.L, one) > 0)
	seen("Delta", zint.Cmp(s.step.Delta, one) > 0)
	seen("true at once", s.id == 1 && s.step.Points > 1)
	seen("false", s.id == 0)
	seen("an Or", whole(a, s.id).Kind == api.Or)
}

// wants fails unless each was often enough.
func (c counts) wants(t *testing.T, often int) {
	t.Helper()
	for _, what := range []string{"not free", "one point", "several points", "low", "high", "several bounds", "no bounds", "L", "Delta", "true at once", "false", "an Or"} {
		if c[what] < often {
			t.Errorf("%s: %d times, in %v", what, c[what], c)
		}
	}
}

// Calls that are drawn are answered as the slow ones are, and the arena is the same behind them: what was made, in which
// order, and what was counted.
func TestDrawnCalls(t *testing.T) {
	d := &dice{state: 151}
	seen, refused := counts{}, map[api.Errno]int{}
	for range drawn {
		a, b := twins(t, d, 6+d.roll(200), 1+d.roll(3))
		row := tellArena(a)
		for range 1 + d.roll(4) {
			q := d.asking(a)
			row += "\n" + q.String()
			got, want := q.ask(a), q.slow(b)
			if got.String() != want.String() || tellArena(a) != tellArena(b) {
				t.Fatalf("%s: %s, want %s\n%s\nwant\n%s", row, got, want, short(tellArena(a)), short(tellArena(b)))
			}
			refused[got.e]++
			if got.e == api.OK {
				seen.count(a, got)
			}
		}
	}
	seen.wants(t, drawn/100)
	for _, e := range []api.Errno{api.OK, api.ErrNode, api.ErrQuant, api.ErrNodes, api.ErrLimbs} {
		if refused[e] < drawn/50 {
			t.Errorf("refused: %v", refused)
		}
	}
}

// With each number of nodes that a meter may have, a call stops where the slow one does.
func TestDrawnBounds(t *testing.T) {
	d := &dice{state: 152}
	stopped := 0
	for range drawn / 10 {
		first := *d
		a := grown(t, d, api.MaxNodes, 3)
		q, was := d.asking(a), a.Meter().Spent()
		q.ask(a)
		for nodes := max(1, was); nodes <= min(a.Meter().Spent(), was+60); nodes++ {
			again := first
			a, b := twins(t, &again, nodes, 3)
			got, want := q.ask(a), q.slow(b)
			if got.String() != want.String() || tellArena(a) != tellArena(b) {
				t.Fatalf("%s with %d nodes: %s, want %s\n%s\nwant\n%s", q, nodes, got, want, short(tellArena(a)), short(tellArena(b)))
			}
			if got.e == api.ErrNodes {
				stopped++
			}
		}
	}
	if stopped < drawn/3 {
		t.Errorf("stopped %d times", stopped)
	}
}
