package ground_test

import (
	"slices"
	"strconv"
	"testing"

	"riddle/api"
	"riddle/arena"
	"riddle/ground"
	"riddle/zint"
)

// The slow calls do what the chapter says, word by word; tests hold the two against them.

// ways tells each node of a formula once for every way down to it.
func ways(a *arena.Arena, id int, tell func(node api.Node)) {
	node := whole(a, id)
	for _, kid := range node.Kids {
		ways(a, kid, tell)
	}
	tell(node)
}

// first is a variable's value in a row, if it has one.
func first(vals []api.Value, v int) (api.Int, bool) {
	for _, value := range vals {
		if value.Var == v {
			return value.N, true
		}
	}
	return api.Int{}, false
}

// slowError is the error of a formula under one row, or, where there is none, under no row.
func slowError(a *arena.Arena, id int, l [][]api.Value) api.Errno {
	if a == nil {
		return api.ErrArg
	}
	if id < 0 || id >= a.Len() {
		return api.ErrNode
	}
	isBound, isOpen := false, false
	ways(a, id, func(node api.Node) {
		isBound = isBound || node.Kind == api.Some || node.Kind == api.All
		for _, q := range node.T.Parts {
			for _, vals := range l {
				_, is := first(vals, q.Var)
				isOpen = isOpen || !is
			}
		}
	})
	switch {
	case isBound:
		return api.ErrQuant
	case isOpen:
		return api.ErrArity
	}
	return api.OK
}

// slowHolds goes every way down. A sum's parts above 0 and below are added up each for themselves.
func slowHolds(a *arena.Arena, id int, vals []api.Value) bool {
	node := whole(a, id)
	isSo := func(kid int) bool { return slowHolds(a, kid, vals) }
	isNot := func(kid int) bool { return !slowHolds(a, kid, vals) }
	above, below := slowSum(node.T, vals)
	switch node.Kind {
	case api.And:
		return !slices.ContainsFunc(node.Kids, isNot)
	case api.Or:
		return slices.ContainsFunc(node.Kids, isSo)
	case api.Less:
		return zint.Cmp(above, below) > 0
	case api.Div:
		return sameClass(above, below, node.D)
	case api.Not:
		return !sameClass(above, below, node.D)
	}
	return node.Kind == api.True
}

func slowSum(t api.Term, vals []api.Value) (above, below api.Int) {
	add := func(k api.Int) {
		if zint.Sign(k) < 0 {
			below = zint.Add(below, zint.Abs(k))
		} else {
			above = zint.Add(above, k)
		}
	}
	add(t.K)
	for _, q := range t.Parts {
		value, _ := first(vals, q.Var)
		add(zint.Mul(value, q.C))
	}
	return above, below
}

// sameClass tells whether two numbers leave the same by d.
func sameClass(a, b, d api.Int) bool {
	_, r, _ := zint.DivMod(a, d)
	_, s, _ := zint.DivMod(b, d)
	return zint.Cmp(r, s) == 0
}

func slowEval(a *arena.Arena, id int, vals []api.Value) (bool, api.Errno) {
	if e := slowError(a, id, rows(vals)); e != api.OK {
		return false, e
	}
	return slowHolds(a, id, vals), api.OK
}

func slowCount(a *arena.Arena, id int, l [][]api.Value) (int, api.Errno) {
	if e := slowError(a, id, l); e != api.OK {
		return 0, e
	}
	count := 0
	for _, vals := range l {
		if slowHolds(a, id, vals) {
			count++
		}
	}
	return count, api.OK
}

// A dice draws numbers, always the same ones.
type dice struct{ state uint64 }

// roll is one of 0 to n - 1.
func (d *dice) roll(n int) int {
	d.state = d.state*6364136223846793005 + 1442695040888963407
	return int((d.state >> 33) % uint64(n))
}

// number is a small one mostly, else one of at most so many limbs.
func (d *dice) number(limbs int) api.Int {
	if d.roll(6) > 0 {
		return n(d.roll(13) - 6)
	}
	a := widest(1 + d.roll(limbs))
	a.Mag[0] -= uint32(d.roll(4))
	a.Neg = d.roll(2) == 0
	return a
}

// raw is a number that may not stand as it should.
func (d *dice) raw(limbs int) api.Int {
	a := d.number(limbs)
	if d.roll(4) == 0 {
		a.Mag = slices.Concat(a.Mag, make([]uint32, d.roll(3)))
		a.Neg = a.Neg || len(n(0).Mag) == zint.Limbs(a) && d.roll(2) == 0
	}
	return a
}

func variables() []int { return []int{0, 1, 2, 3, most, least} }

func (d *dice) variable() int { return variables()[d.roll(len(variables()))] }

func (d *dice) atom(limbs int) api.Atom {
	x := api.Atom{Kind: api.Less + d.roll(3), D: n(2 + d.roll(4)), T: api.Term{K: d.number(limbs)}}
	if d.roll(8) == 0 {
		x.D = widest(limbs)
	}
	for range 1 + d.roll(3) {
		x.T.Parts = append(x.T.Parts, api.Part{Var: d.variable(), C: d.number(limbs)})
	}
	return x
}

// among draws the number of a node.
func (d *dice) among(nodes int) int {
	if d.roll(2) == 0 {
		return d.roll(nodes)
	}
	return nodes - 1 - d.roll(min(nodes, 6))
}

// grow lays a node in an arena, if the meter lets it: an atom, or a formula above what is there, not made simpler. Where
// plain, it has no quantifier.
func (d *dice) grow(a *arena.Arena, limbs int, plain bool) {
	nodes := a.Len()
	switch d.roll(8) {
	case 0, 1, 2:
		a.Atom(d.atom(limbs))
	case 3:
		if !plain {
			a.Bind(api.Some+d.roll(2), d.variable(), d.among(nodes))
			return
		}
		fallthrough
	default:
		var kids []int
		for range 2 + d.roll(2) {
			kids = append(kids, d.among(nodes))
		}
		a.Join(api.And+d.roll(2), kids...)
	}
}

// grown is an arena with what was drawn there, from some atoms on. The same dice and the same bounds make the same one.
func grown(t *testing.T, d *dice, nodes, limbs int) *arena.Arena {
	t.Helper()
	a := arena.New(meterOf(t, nodes, limbs))
	plain := d.roll(6) > 0
	for range 1 + d.roll(12) {
		a.Atom(d.atom(limbs))
	}
	for range 2 + d.roll(20) {
		d.grow(a, limbs, plain)
	}
	return a
}

// row draws values of the variables, in any order, of some several; rarely one has none.
func (d *dice) row(limbs int) []api.Value {
	var vals []api.Value
	for _, v := range variables() {
		for range 1 + d.roll(4)/3 {
			vals = append(vals, bigVal(v, d.raw(limbs)))
		}
	}
	vals = append(vals, bigVal(4, d.raw(limbs)))
	for i := range vals {
		j := d.roll(i + 1)
		vals[i], vals[j] = vals[j], vals[i]
	}
	if d.roll(16) == 0 {
		gone := d.variable()
		vals = slices.DeleteFunc(vals, func(value api.Value) bool { return value.Var == gone })
	}
	return vals
}

// An asking is a call that is drawn, with all that it is given but for the arena.
type asking struct {
	id   int
	rows [][]api.Value
}

func (q asking) String() string { return "of " + strconv.Itoa(q.id) + ", " + tellRows(q.rows) }

// asking draws a call, mostly of one of the last nodes, rarely with a number of no node.
func (d *dice) asking(a *arena.Arena) asking {
	nodes := a.Len()
	q := asking{id: d.among(nodes)}
	if d.roll(25) == 0 {
		q.id = []int{-1, nodes, nodes + 1, least, most}[d.roll(5)]
	}
	for range d.roll(7) {
		q.rows = append(q.rows, d.row(12))
	}
	return q
}

// Calls that are drawn are answered as the slow ones are, and nothing is made or counted.
func TestDrawnCalls(t *testing.T) {
	d := &dice{state: 172}
	refused := map[api.Errno]int{}
	var seen tally
	for range 2 * drawn {
		a := grown(t, d, 4+d.roll(60), 1+d.roll(3))
		was := tellArena(a)
		for range 4 {
			q := d.asking(a)
			count, e := ground.Count(a, q.id, q.rows)
			if want, wantE := slowCount(a, q.id, q.rows); count != want || e != wantE {
				t.Fatalf("%s: %d, %v, want %d, %v, in\n%s", q, count, e, want, wantE, was)
			}
			for _, vals := range q.rows {
				is, e := ground.Eval(a, q.id, vals)
				if want, wantE := slowEval(a, q.id, vals); is != want || e != wantE {
					t.Fatalf("of %d, %s: %v, %v, want %v, %v, in\n%s", q.id, tellRow(vals), is, e, want, wantE, was)
				}
				refused[e]++
				if e == api.OK && whole(a, q.id).Kind >= api.And {
					seen.count(is)
				}
			}
		}
		if tellArena(a) != was {
			t.Fatalf("something was made: %s\nwas\n%s", tellArena(a), was)
		}
	}
	// What was drawn has all that the test is for.
	seen.wants(t, drawn)
	if min(refused[api.ErrNode], refused[api.ErrQuant], refused[api.ErrArity]) < drawn/10 {
		t.Errorf("refused %v", refused)
	}
}

// The slow calls are looked at themselves, where the answer is plain.
func TestSlowCalls(t *testing.T) {
	a := arena.New(nil)
	f := and(xy(1, -1, 0), div(2, 0, p(0, 1)))(a)
	if is, e := slowEval(a, f, at(4, 3)); !is || e != api.OK {
		t.Errorf("%v, %v", is, e)
	}
	if is, e := slowEval(a, f, row(val(0, 4), val(0, 3), val(1, 9))); is || e != api.OK {
		t.Errorf("%v, %v", is, e)
	}
	if count, e := slowCount(a, f, rows(at(2, 1), at(2, 2), at(4, 0), at(3, 0))); count != 2 || e != api.OK {
		t.Errorf("%d, %v", count, e)
	}
	if count, e := slowCount(a, f, rows(at(2, 1), at(2))); count != 0 || e != api.ErrArity {
		t.Errorf("%d, %v", count, e)
	}
}
