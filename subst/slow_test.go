package subst_test

import (
	"slices"
	"strconv"
	"strings"
	"testing"

	"riddle/api"
	"riddle/arena"
	"riddle/atom"
	"riddle/simp"
	"riddle/subst"
	"riddle/zint"
)

// The slow calls do what the chapter says, word by word; tests hold the three against them.

// ways tells each atom of a formula once for every way down to it, with the variables that are bound on that way.
func ways(a *arena.Arena, id int, bound []int, tell func(bound []int, node api.Node)) {
	node := whole(a, id)
	if node.Kind == api.Some || node.Kind == api.All {
		bound = append(slices.Clone(bound), node.Var)
	}
	for _, kid := range node.Kids {
		ways(a, kid, bound, tell)
	}
	if len(node.Kids) == 0 {
		tell(bound, node)
	}
}

func mentions(t api.Term, v int) bool {
	return slices.ContainsFunc(t.Parts, func(q api.Part) bool { return q.Var == v })
}

// has tells whether a term has a variable, when all its parts are taken together.
func has(t api.Term, v int) bool {
	c := n(0)
	for _, q := range t.Parts {
		if q.Var == v {
			c = zint.Add(c, q.C)
		}
	}
	return zint.Sign(c) != 0
}

func slowPut(a *arena.Arena, id, v int, t api.Term) (int, api.Errno) {
	if _, is := a.Node(id); !is {
		return 0, api.ErrNode
	}
	free, caught := false, false
	ways(a, id, nil, func(bound []int, node api.Node) {
		if mentions(node.T, v) && !slices.Contains(bound, v) {
			free = true
			caught = caught || slices.ContainsFunc(bound, func(w int) bool { return has(t, w) })
		}
	})
	switch {
	case !free:
		return id, api.OK
	case caught:
		return 0, api.ErrBound
	}
	return slowPlace(a, id, v, t, map[int]int{})
}

func slowPlace(a *arena.Arena, id, v int, t api.Term, kept map[int]int) (int, api.Errno) {
	if !slices.Contains(a.Free(id), v) {
		return id, api.OK
	}
	if came, is := kept[id]; is {
		return came, api.OK
	}
	node, kids := whole(a, id), []int{}
	for _, kid := range node.Kids {
		came, e := slowPlace(a, kid, v, t, kept)
		if e != api.OK {
			return 0, e
		}
		kids = append(kids, came)
	}
	came, e := slowMake(a, node, kids, func(x api.Atom) api.Atom { return atom.Put(x, v, t) })
	kept[id] = came
	return came, e
}

func slowMake(a *arena.Arena, node api.Node, kids []int, f func(api.Atom) api.Atom) (int, api.Errno) {
	switch node.Kind {
	case api.And:
		return simp.And(a, kids...)
	case api.Or:
		return simp.Or(a, kids...)
	case api.Some, api.All:
		return a.Bind(node.Kind, node.Var, kids[0])
	}
	return a.Atom(f(api.Atom{Kind: node.Kind, D: node.D, T: node.T}))
}

func slowInstance(a *arena.Arena, id int, vals []api.Value) (int, api.Errno) {
	if _, is := a.Node(id); !is {
		return 0, api.ErrNode
	}
	for _, value := range vals {
		came, e := slowPut(a, id, value.Var, api.Term{K: value.N})
		if e != api.OK {
			return 0, e
		}
		id = came
	}
	return id, api.OK
}

func slowMap(a *arena.Arena, id int, f func(api.Atom) api.Atom) (int, api.Errno) {
	if f == nil {
		return 0, api.ErrArg
	}
	if _, is := a.Node(id); !is {
		return 0, api.ErrNode
	}
	for _, other := range a.Reach(id) {
		if kind := whole(a, other).Kind; kind == api.Some || kind == api.All {
			return 0, api.ErrQuant
		}
	}
	return slowTurn(a, id, f, map[int]int{0: 0, 1: 1})
}

func slowTurn(a *arena.Arena, id int, f func(api.Atom) api.Atom, kept map[int]int) (int, api.Errno) {
	if came, is := kept[id]; is {
		return came, api.OK
	}
	node, kids := whole(a, id), []int{}
	for _, kid := range node.Kids {
		came, e := slowTurn(a, kid, f, kept)
		if e != api.OK {
			return 0, e
		}
		kids = append(kids, came)
	}
	came, e := slowMake(a, node, kids, f)
	kept[id] = came
	return came, e
}

// A dice draws numbers, always the same ones. A small one draws small numbers, and the variables 0, 1 and 2 alone.
type dice struct {
	state uint64
	small bool
}

// roll is one of 0 to n - 1.
func (d *dice) roll(n int) int {
	d.state = d.state*6364136223846793005 + 1442695040888963407
	return int((d.state >> 33) % uint64(n))
}

// number is a small one mostly, rarely one of about so many limbs.
func (d *dice) number(limbs int) api.Int {
	if d.small || d.roll(12) > 0 {
		return n(d.roll(9) - 4)
	}
	a := widest(limbs)
	a.Mag[0] -= uint32(d.roll(2))
	a.Neg = d.roll(2) == 0
	return a
}

// raw is a number that may not stand as it should.
func (d *dice) raw(limbs int) api.Int {
	a := d.number(limbs)
	if d.roll(4) == 0 {
		a.Mag = append(a.Mag, make([]uint32, d.roll(3))...)
		a.Neg = a.Neg || len(a.Mag) == 0
	}
	return a
}

func variables() []int { return []int{0, 1, 2, 0, 1, 2, 3, most, least} }

func (d *dice) variable() int {
	if d.small {
		return d.roll(3)
	}
	return variables()[d.roll(len(variables()))]
}

// term draws one that often does not stand as it should, and whose parts often cancel.
func (d *dice) term(limbs int) api.Term {
	t := api.Term{K: d.raw(limbs)}
	for range d.roll(4) {
		q := api.Part{Var: d.variable(), C: d.raw(limbs)}
		t.Parts = append(t.Parts, q)
		if d.roll(4) == 0 {
			t.Parts = append(t.Parts, api.Part{Var: q.Var, C: opposite(q.C)})
		}
	}
	return t
}

func (d *dice) atom(limbs int) api.Atom {
	x := api.Atom{Kind: []int{api.Less, api.Less, api.Less, api.Div, api.Not}[d.roll(5)], D: n(2 + d.roll(5)), T: api.Term{K: d.number(limbs)}}
	for range 1 + d.roll(3) {
		x.T.Parts = append(x.T.Parts, p(d.variable(), []int{1, -1, 1, -1, 2, -3}[d.roll(6)]))
	}
	return x
}

// among draws the number of a node.
func (d *dice) among(nodes int) int {
	if d.roll(4) == 0 {
		return d.roll(nodes)
	}
	return nodes - 1 - d.roll(min(nodes, 6))
}

// grow lays a node in an arena, if the meter lets it: an atom, or a formula above what is there, not made simpler. Where
// plain, it has no quantifier.
func (d *dice) grow(a *arena.Arena, limbs int, plain bool) {
	nodes := a.Len()
	switch d.roll(8) {
	case 0, 1, 2:
		a.Atom(d.atom(limbs))
	case 3, 4:
		if !plain {
			a.Bind(api.Some+d.roll(2), d.variable(), d.among(nodes))
			return
		}
		fallthrough
	default:
		var kids []int
		for range 2 + d.roll(3) {
			kids = append(kids, d.among(nodes))
		}
		a.Join(api.And+d.roll(2), kids...)
	}
}

// grown is an arena with what was drawn there. The same dice and the same bounds make the same one.
func grown(t *testing.T, d *dice, nodes, limbs int) *arena.Arena {
	t.Helper()
	a := arena.New(meterOf(t, nodes, limbs))
	plain := d.roll(3) == 0
	for range 3 + d.roll(24) {
		d.grow(a, limbs, plain)
	}
	return a
}

// turning draws a function that turns atoms. Each time it is made anew it turns those that it is asked of likewise.
func (d *dice) turning(limbs int) func() func(api.Atom) api.Atom {
	v, t, by, answers := d.variable(), d.term(limbs), d.roll(7), []api.Atom{}
	for range 1 + d.roll(4) {
		answers = append(answers, d.atom(limbs), api.Atom{Kind: d.roll(2), T: d.term(limbs)})
	}
	if by == 0 {
		answers = append(answers, api.Atom{Kind: []int{9, -1, api.And, api.All, most, api.Div, api.Div, api.Not, api.Not}[d.roll(9)], T: d.term(limbs)})
	}
	return func() func(api.Atom) api.Atom {
		asked := 0
		return func(x api.Atom) api.Atom {
			asked++
			switch by {
			case 1:
				return x
			case 2:
				return atom.Negate(x)
			case 3:
				return atom.Put(x, v, t)
			case 4:
				return api.Atom{Kind: x.Kind, D: x.D, T: api.Term{Parts: slices.Concat(x.T.Parts, t.Parts), K: x.T.K}}
			}
			return answers[asked%len(answers)]
		}
	}
}

// An asking is a call that is drawn, with all that it is given but for the arena.
type asking struct {
	name string
	id   int
	v    int
	t    api.Term
	vals []api.Value
	turn func() func(api.Atom) api.Atom
}

func (q asking) String() string {
	id := q.name + "(" + strconv.Itoa(q.id)
	switch q.name {
	case "Put":
		return id + ", v" + strconv.Itoa(q.v) + ", " + tellTerm(q.t) + ")"
	case "Instance":
		return id + ": " + tellValues(q.vals) + ")"
	}
	return id + ")"
}

// watched is a function that notes what it is asked of.
func (q asking) watched(seen *strings.Builder) func(api.Atom) api.Atom {
	if q.turn == nil {
		return nil
	}
	f := q.turn()
	return func(x api.Atom) api.Atom {
		seen.WriteString(tellAtom(x) + "\n")
		return f(x)
	}
}

// do is what the call answers, with what it asks of the function.
func (q asking) do(a *arena.Arena) (int, api.Errno, string) {
	var seen strings.Builder
	var id int
	var e api.Errno
	switch q.name {
	case "Put":
		id, e = subst.Put(a, q.id, q.v, q.t)
	case "Instance":
		id, e = subst.Instance(a, q.id, q.vals)
	default:
		id, e = subst.Map(a, q.id, q.watched(&seen))
	}
	return id, e, seen.String()
}

func (q asking) slow(a *arena.Arena) (int, api.Errno, string) {
	var seen strings.Builder
	var id int
	var e api.Errno
	switch q.name {
	case "Put":
		id, e = slowPut(a, q.id, q.v, q.t)
	case "Instance":
		id, e = slowInstance(a, q.id, q.vals)
	default:
		id, e = slowMap(a, q.id, q.watched(&seen))
	}
	return id, e, seen.String()
}

// asking draws a call, rarely with a number of no node, or a function that is nil.
func (d *dice) asking(a *arena.Arena, limbs int) asking {
	nodes := a.Len()
	q := asking{name: []string{"Put", "Put", "Instance", "Map"}[d.roll(4)], id: d.among(nodes), v: d.variable(), t: d.term(limbs), turn: d.turning(limbs)}
	if free := a.Free(q.id); len(free) > 0 && d.roll(3) > 0 {
		q.v = free[d.roll(len(free))]
	}
	for range d.roll(6) {
		q.vals = append(q.vals, api.Value{Var: d.variable(), N: d.raw(limbs)})
	}
	if d.roll(25) == 0 {
		q.id = []int{-1, nodes, nodes + 1, least, most}[d.roll(5)]
	}
	if d.roll(25) == 0 {
		q.turn = nil
	}
	return q
}

// Calls that are drawn are answered as the slow ones are, and the arena is the same behind them: what was made, in which
// order, and what was counted. A function is asked the same.
func TestDrawnCalls(t *testing.T) {
	d := &dice{state: 121}
	refused, made, itself, asked := map[api.Errno]int{}, map[string]int{}, map[string]int{}, 0
	for range 2 * drawn {
		nodes, limbs := 5+d.roll(60), 1+d.roll(2)
		twin := *d
		a, b := grown(t, d, nodes, limbs), grown(t, &twin, nodes, limbs)
		row := tellArena(a)
		for range 1 + d.roll(8) {
			q := d.asking(a, limbs)
			row += "\n" + q.String()
			was := a.Len()
			got, e, seen := q.do(a)
			want, wantE, wantSeen := q.slow(b)
			if got != want || e != wantE || seen != wantSeen || tellArena(a) != tellArena(b) {
				t.Fatalf("%s: %d, %v, want %d, %v\n%s\nwant\n%s\nasked of\n%s\nwant\n%s", row, got, e, want, wantE, tellArena(a), tellArena(b), seen, wantSeen)
			}
			refused[e]++
			made[q.name] += a.Len() - was
			asked += strings.Count(seen, "\n")
			if e == api.OK && got == q.id {
				itself[q.name]++
			}
		}
	}
	// What was drawn has all that the test is for.
	if min(refused[api.ErrArg], refused[api.ErrNode], refused[api.ErrBound], refused[api.ErrQuant], refused[api.ErrNodes], refused[api.ErrLimbs], refused[api.ErrZero]) < 10 || min(made["Put"], made["Instance"], made["Map"], asked) < drawn/3 ||
		min(itself["Put"], itself["Instance"], itself["Map"]) < drawn/10 {
		t.Errorf("refused %v, made %v, themselves %v, asked %d times", refused, made, itself, asked)
	}
}
