package drive_test

import (
	"slices"
	"strconv"
	"testing"

	"riddle/api"
	"riddle/arena"
	"riddle/atom"
	"riddle/elim"
	"riddle/simp"
)

// A slow one does what the chapter says, word by word, by calls within calls; tests hold the two calls against it. It counts
// on the way what a test is for.
type slow struct {
	a     *arena.Arena
	steps []api.Step
	kept  map[int]int
	seen  map[string]int
}

// fault is thrown where a layer below answers an error.
type fault struct{ e api.Errno }

func fine(id int, e api.Errno) int {
	if e != api.OK {
		panic(fault{e})
	}
	return id
}

// answered is what a slow call answers, or the error that it met.
func (s *slow) answered(call func() int) (got answer) {
	defer func() {
		if met := recover(); met != nil {
			got = answer{e: met.(fault).e}
		}
	}()
	return answer{call(), s.steps, api.OK}
}

// finds tells whether a node of a formula is of a kind, by every way down.
func finds(a *arena.Arena, id int, is func(node api.Node) bool) bool {
	node := whole(a, id)
	return is(node) || slices.ContainsFunc(node.Kids, func(kid int) bool { return finds(a, kid, is) })
}

func isQuantifier(node api.Node) bool { return node.Kind == api.Some || node.Kind == api.All }

// hasPart tells whether a variable is in an atom of a plain formula.
func hasPart(a *arena.Arena, id, v int) bool {
	return finds(a, id, func(node api.Node) bool {
		return slices.ContainsFunc(node.T.Parts, func(q api.Part) bool { return q.Var == v })
	})
}

func (s *slow) count(what string, is bool) {
	if is {
		s.seen[what]++
	}
}

// some is P16.1.
func (s *slow) some(id, v int) int {
	node := whole(s.a, id)
	var with, others, came []int
	for _, kid := range node.Kids {
		if hasPart(s.a, kid, v) {
			with = append(with, kid)
		} else {
			others = append(others, kid)
		}
	}
	switch {
	case !hasPart(s.a, id, v):
		s.seen["not free"]++
		return id
	case node.Kind == api.Or:
		s.seen["an Or"]++
		for _, kid := range node.Kids {
			came = append(came, s.some(kid, v))
		}
		return fine(simp.Or(s.a, came...))
	case node.Kind == api.And && len(others) > 0:
		w := fine(simp.And(s.a, with...))
		s.count("one of an And", len(with) == 1)
		s.count("several of an And", len(with) > 1)
		s.count("gone when joined", !hasPart(s.a, w, v))
		s.count("an And within an And", whole(s.a, w).Kind == api.And && slices.ContainsFunc(whole(s.a, w).Kids, func(kid int) bool { return !hasPart(s.a, kid, v) }))
		s.count("an Or within an And", whole(s.a, w).Kind == api.Or)
		return fine(simp.And(s.a, append(others, s.some(w, v))...))
	}
	s.count("an And as a whole", node.Kind == api.And)
	got, step, e := elim.Some(s.a, id, v)
	fine(got, e)
	s.steps = append(s.steps, step)
	return got
}

// run is P16.2.
func (s *slow) run(id int) int {
	if came, is := s.kept[id]; is {
		s.count("a quantifier again", isQuantifier(whole(s.a, id)))
		return came
	}
	node, came := whole(s.a, id), id
	var kids []int
	for _, kid := range node.Kids {
		kids = append(kids, s.run(kid))
	}
	switch node.Kind {
	case api.And:
		came = fine(simp.And(s.a, kids...))
	case api.Or:
		came = fine(simp.Or(s.a, kids...))
	case api.Some:
		s.seen["a Some"]++
		came = s.some(kids[0], node.Var)
	case api.All:
		s.seen["an All"]++
		came = fine(simp.Negate(s.a, s.some(fine(simp.Negate(s.a, kids[0])), node.Var)))
	}
	s.kept[id] = came
	return came
}

// A dice draws numbers, always the same ones. A small one draws small numbers, and the variables 0 to 3 alone.
type dice struct {
	state uint64
	small bool
}

// roll is one of 0 to n - 1.
func (d *dice) roll(n int) int {
	d.state = d.state*6364136223846793005 + 1442695040888963407
	return int((d.state >> 33) % uint64(n))
}

// number is a small one mostly, rarely one of about so many limbs.
func (d *dice) number(limbs int) api.Int {
	if d.small || d.roll(8) > 0 {
		return n(d.roll(13) - 6)
	}
	a := widest(1+d.roll(limbs), d.roll(2))
	a.Neg = d.roll(2) == 0
	return a
}

// coefficient is 1 or -1 mostly: with many others a run becomes long.
func (d *dice) coefficient() api.Int {
	if d.roll(10) > 0 {
		return n(2*d.roll(2) - 1)
	}
	return n(d.roll(7) - 3)
}

func variables() []int { return []int{0, 1, 2, 0, 1, 0, 0, 3, 2, most, least} }

func (d *dice) variable() int {
	if d.small {
		return d.roll(4)
	}
	return variables()[d.roll(len(variables()))]
}

func (d *dice) atom(limbs int) api.Atom {
	x := api.Atom{Kind: []int{api.Less, api.Less, api.Less, api.Less, api.Less, api.Less, api.Div, api.Not}[d.roll(8)], D: n(2 + d.roll(2)), T: api.Term{K: d.number(limbs)}}
	for range 1 + d.roll(2) {
		x.T.Parts = append(x.T.Parts, api.Part{Var: d.variable(), C: d.coefficient()})
	}
	return x
}

// among draws the number of a node, mostly of no constant.
func (d *dice) among(nodes int) int {
	if nodes < 4 || d.roll(30) == 0 {
		return d.roll(nodes)
	}
	return 2 + d.roll(nodes-2)
}

// several draws numbers of nodes, some of them of the last ones.
func (d *dice) several(a *arena.Arena, many int) []int {
	var ids []int
	for range many {
		if d.roll(3) == 0 {
			ids = append(ids, max(0, a.Len()-1-d.roll(3)))
		} else {
			ids = append(ids, d.among(a.Len()))
		}
	}
	return ids
}

// grow lays a node above what is there, if the meter lets it, not made simpler. Where plain, it is no quantifier.
func (d *dice) grow(a *arena.Arena, plain bool) {
	if !plain && d.roll(3) == 0 {
		a.Bind(api.Some+d.roll(2), d.variable(), d.several(a, 1)[0])
		return
	}
	a.Join(api.And+d.roll(2), d.several(a, 2+d.roll(3))...)
}

// grown is an arena with what was drawn there, from some atoms on. The same dice and the same bounds make the same one.
func grown(t *testing.T, d *dice, nodes, limbs int) *arena.Arena {
	t.Helper()
	a := arena.New(meterOf(t, nodes, limbs))
	plain := d.roll(2) == 0
	for range 3 + d.roll(6) {
		one := d.atom(limbs)
		a.Atom(one)
		if d.roll(3) == 0 {
			a.Atom(atom.Negate(one))
		}
	}
	for range 2 + d.roll(10) {
		d.grow(a, plain)
	}
	return a
}

// twins are two arenas with the same formulas.
func twins(t *testing.T, d *dice, nodes, limbs int) (*arena.Arena, *arena.Arena) {
	t.Helper()
	twin := *d
	return grown(t, d, nodes, limbs), grown(t, &twin, nodes, limbs)
}

// An asking is a call that is drawn, with all that it is given but for the arena.
type asking struct {
	call
	id, v int
}

func (q asking) String() string {
	return q.name + " of " + strconv.Itoa(q.id) + " and v" + strconv.Itoa(q.v)
}

func (q asking) ask(a *arena.Arena) answer { return q.answer(a, q.id, q.v) }

// slow is what the slow call answers, and how often it met what a test is for.
func (q asking) slow(a *arena.Arena, seen map[string]int) answer {
	s := &slow{a: a, kept: map[int]int{}, seen: seen}
	switch {
	case q.id < 0 || q.id >= a.Len():
		return answer{e: api.ErrNode}
	case q.name == "Run":
		return s.answered(func() int { return s.run(q.id) })
	case finds(a, q.id, isQuantifier):
		return answer{e: api.ErrQuant}
	}
	return s.answered(func() int { return s.some(q.id, q.v) })
}

// asking draws a call, mostly of one of the last nodes and a variable that is free there, rarely with a number of no node.
func (d *dice) asking(a *arena.Arena) asking {
	nodes := a.Len()
	q := asking{calls()[d.roll(2)], max(0, nodes-1-d.roll(3)), d.variable()}
	if d.roll(6) == 0 {
		q.id = d.roll(nodes)
	}
	if !a.Plain(q.id) && d.roll(6) > 0 {
		q.call = runOf()
	}
	if free := a.Free(q.id); len(free) > 0 && d.roll(8) > 0 {
		q.v = free[d.roll(len(free))]
	}
	if d.roll(25) == 0 {
		q.id = []int{-1, nodes, nodes + 1, least, most}[d.roll(5)]
	}
	return q
}

func wants(t *testing.T, seen map[string]int, often int) {
	t.Helper()
	for _, what := range []string{"not free", "an Or", "one of an And", "several of an And", "gone when joined", "an And within an And", "an Or within an And", "an And as a whole", "a Some", "an All", "a quantifier again", "several steps", "no steps"} {
		if seen[what] < often {
			t.Errorf("%s: %d times, in %v", what, seen[what], seen)
		}
	}
}

// Calls that are drawn are answered as the slow ones are, and the arena is the same behind them: what was made, in which
// order, and what was counted.
func TestDrawnCalls(t *testing.T) {
	d := &dice{state: 161}
	seen, refused := map[string]int{}, map[api.Errno]int{}
	for range drawn {
		a, b := twins(t, d, 12+d.roll(100), 1+d.roll(2))
		row := tellArena(a)
		for range 1 + d.roll(4) {
			q := d.asking(a)
			row += "\n" + q.String()
			got, want := q.ask(a), q.slow(b, seen)
			if got.String() != want.String() || tellArena(a) != tellArena(b) {
				t.Fatalf("%s: %s, want %s\n%s\nwant\n%s", row, got, want, short(tellArena(a)), short(tellArena(b)))
			}
			refused[got.e]++
			if len(got.steps) > 1 {
				seen["several steps"]++
			} else if len(got.steps) == 0 && got.e == api.OK && got.id != q.id {
				seen["no steps"]++
			}
		}
	}
	wants(t, seen, drawn/100)
	for _, e := range []api.Errno{api.OK, api.ErrNode, api.ErrQuant, api.ErrNodes, api.ErrLimbs} {
		if refused[e] < drawn/50 {
			t.Errorf("refused: %v", refused)
		}
	}
}

// With each number of nodes that a meter may have, a call stops where the slow one does.
func TestDrawnBounds(t *testing.T) {
	d := &dice{state: 162}
	stopped := 0
	for range drawn / 4 {
		first := *d
		a := grown(t, d, api.MaxNodes, 3)
		q, was := d.asking(a), a.Meter().Spent()
		q.ask(a)
		for nodes := max(1, was); nodes <= min(a.Meter().Spent(), was+60); nodes++ {
			again := first
			a, b := twins(t, &again, nodes, 3)
			got, want := q.ask(a), q.slow(b, map[string]int{})
			if got.String() != want.String() || tellArena(a) != tellArena(b) {
				t.Fatalf("%s with %d nodes: %s, want %s\n%s\nwant\n%s", q, nodes, got, want, short(tellArena(a)), short(tellArena(b)))
			}
			if got.e == api.ErrNodes {
				stopped++
			}
		}
	}
	if stopped < drawn/4 {
		t.Errorf("stopped %d times", stopped)
	}
}
