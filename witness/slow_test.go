package witness_test

import (
	"slices"
	"testing"

	"riddle/api"
	"riddle/arena"
	"riddle/atom"
	"riddle/drive"
	"riddle/subst"
	"riddle/term"
	"riddle/zint"
)

// A slow one does what the chapter says, word by word; tests hold the two calls against it. It counts on the way what a test
// is for.
type slow struct {
	a    *arena.Arena
	seen map[string]int
}

// fault is thrown where the chapter or a layer below answers an error.
type fault struct{ e api.Errno }

func fine(id int, e api.Errno) int {
	if e != api.OK {
		panic(fault{e})
	}
	return id
}

// answered is what a slow call answers, or the error that it met.
func (s slow) answered(q asking) (got answer) {
	defer func() {
		if met := recover(); met != nil {
			got = q.nothing(met.(fault).e)
		}
	}()
	if q.id < 0 || q.id >= s.a.Len() {
		panic(fault{api.ErrNode})
	}
	if q.one {
		k, is := s.one(q.id, q.vars[0])
		return answer{bigs(k), is, api.OK}
	}
	l, is := s.find(q.id, q.vars, q.vals)
	return answer{l, is, api.OK}
}

// free are the variables that are free in a formula, by every way down, some of them several times.
func (s slow) free(id int) []int {
	node := whole(s.a, id)
	var l []int
	for _, q := range node.T.Parts {
		l = append(l, q.Var)
	}
	for _, kid := range node.Kids {
		l = append(l, s.free(kid)...)
	}
	if node.Kind == api.Some || node.Kind == api.All {
		l = slices.DeleteFunc(l, func(v int) bool { return v == node.Var })
	}
	return l
}

func (s slow) plain(id int) bool {
	node := whole(s.a, id)
	return node.Kind != api.Some && node.Kind != api.All && !slices.ContainsFunc(node.Kids, func(kid int) bool { return !s.plain(kid) })
}

// holds tells whether a plain formula is true under values.
func (s slow) holds(id int, vals []api.Value) bool {
	node := whole(s.a, id)
	isSo := func(kid int) bool { return s.holds(kid, vals) }
	isNot := func(kid int) bool { return !s.holds(kid, vals) }
	switch node.Kind {
	case api.And:
		return !slices.ContainsFunc(node.Kids, isNot)
	case api.Or:
		return slices.ContainsFunc(node.Kids, isSo)
	}
	is, e := atom.Holds(api.Atom{Kind: node.Kind, D: node.D, T: node.T}, vals)
	return is && fine(0, e) == 0
}

// atoms are those of a formula in which a variable is, by every way down.
func (s slow) atoms(id, v int) []api.Node {
	node := whole(s.a, id)
	var l []api.Node
	if zint.Sign(term.Coef(node.T, v)) != 0 {
		l = append(l, node)
	}
	for _, kid := range node.Kids {
		l = append(l, s.atoms(kid, v)...)
	}
	return l
}

// points are P20.1's, but no more than a meter could ever count.
func (s slow) points(id, v int) []api.Int {
	d, m := n(1), api.Int{}
	var marks, low []api.Int
	for _, node := range s.atoms(id, v) {
		switch c := tellInt(term.Coef(node.T, v)); {
		case node.Kind != api.Less:
			// As it should stand the coefficient has no divisor in common with D.
			d = zint.Lcm(d, node.D)
		case c == "'1":
			marks, low = append(marks, zint.Neg(node.T.K)), append(low, zint.Neg(node.T.K))
		case c == "-'1":
			marks = append(marks, zint.Sub(node.T.K, n(1)))
		default:
			panic("no form: " + c)
		}
	}
	for i, mark := range marks {
		if i == 0 || zint.Cmp(mark, m) < 0 {
			m = mark
		}
	}
	slices.SortFunc(low, zint.Cmp)
	many, fits := zint.Int64(d)
	if !fits || many > api.MaxNodes {
		many = api.MaxNodes + 1
	}
	var l []api.Int
	for j := range int(many) {
		l = append(l, zint.Sub(m, n(j)))
	}
	for i, b := range low {
		for j := range int(many) {
			if i == 0 || zint.Cmp(b, low[i-1]) != 0 {
				l = append(l, zint.Add(b, n(j+1)))
			}
		}
	}
	s.count("long period", !fits)
	s.count("several low marks", len(low) > 1)
	return l
}

func (s slow) count(what string, is bool) {
	if is {
		s.seen[what]++
	}
}

// one is P20.1.
func (s slow) one(id, v int) (api.Int, bool) {
	if !s.plain(id) {
		panic(fault{api.ErrQuant})
	}
	if slices.ContainsFunc(s.free(id), func(other int) bool { return other != v }) {
		panic(fault{api.ErrFree})
	}
	l := s.points(id, v)
	for i, point := range l {
		fine(0, s.a.Meter().Spend(1))
		if s.holds(id, []api.Value{{Var: v, N: point}}) {
			s.count("at the first point", i == 0)
			s.count("at the last point", i > 0 && i == len(l)-1)
			s.count("between", i > 0 && i < len(l)-1)
			return point, true
		}
	}
	s.seen["at no point"]++
	return n(0), false
}

// find is P20.2.
func (s slow) find(id int, vars []int, vals []api.Value) ([]api.Int, bool) {
	for i, v := range vars {
		if slices.Contains(vars[:i], v) {
			panic(fault{api.ErrArg})
		}
	}
	var others []api.Value
	known := slices.Clone(vars)
	for _, value := range vals {
		known = append(known, value.Var)
		if !slices.Contains(vars, value.Var) {
			others = append(others, value)
		}
	}
	if slices.ContainsFunc(s.free(id), func(v int) bool { return !slices.Contains(known, v) }) {
		panic(fault{api.ErrArity})
	}
	s.count("quantifiers", !s.plain(id))
	s.count("values", len(others) > 0)
	s.count("values that are none", len(others) < len(vals))
	k := len(vars)
	m := make([]int, k+1)
	came, _, e := drive.Run(s.a, fine(subst.Instance(s.a, id, others)))
	m[k] = fine(came, e)
	for i := k; i > 0; i-- {
		came, _, e := drive.Some(s.a, m[i], vars[i-1])
		m[i-1] = fine(came, e)
	}
	if m[0] == 0 {
		s.count("nothing", k > 0)
		return nil, false
	}
	s.count("several found", k > 1)
	var found []api.Int
	for i := 1; i <= k; i++ {
		var ahead []api.Value
		for j, value := range found {
			ahead = append(ahead, api.Value{Var: vars[j], N: value})
		}
		value, is := s.one(fine(subst.Instance(s.a, m[i], ahead)), vars[i-1])
		s.count("lost on the way", !is)
		found = append(found, value)
	}
	return found, true
}

// A dice draws numbers, always the same ones. A small one draws small numbers, and the variables 0 to 3 alone; a single one
// draws one variable mostly.
type dice struct {
	state         uint64
	small, single bool
}

// roll is one of 0 to n - 1.
func (d *dice) roll(n int) int {
	d.state = d.state*6364136223846793005 + 1442695040888963407
	return int((d.state >> 33) % uint64(n))
}

// number is a small one mostly, rarely one of about so many limbs.
func (d *dice) number(limbs int) api.Int {
	if d.small || d.roll(8) > 0 {
		return n(d.roll(25) - 12)
	}
	a := widest(1+d.roll(limbs), d.roll(2))
	a.Neg = d.roll(2) == 0
	return a
}

// coefficient is 1 or -1 mostly: with many others a run becomes long.
func (d *dice) coefficient() api.Int {
	if d.roll(8) > 0 {
		return n(2*d.roll(2) - 1)
	}
	return n(d.roll(7) - 3)
}

func variables() []int { return []int{0, 1, 2, 0, 1, 0, 3, 2, most, least} }

func (d *dice) variable() int {
	switch {
	case d.single && d.roll(15) > 0:
		return 0
	case d.small:
		return d.roll(4)
	}
	return variables()[d.roll(len(variables()))]
}

// divisor is a small one mostly.
func (d *dice) divisor(limbs int) api.Int {
	if d.small || d.roll(12) > 0 {
		return n(2 + d.roll(5))
	}
	return widest(1+d.roll(limbs), d.roll(3))
}

func (d *dice) atom(limbs int) api.Atom {
	x := api.Atom{Kind: []int{api.Less, api.Less, api.Less, api.Less, api.Less, api.Div, api.Div, api.Not}[d.roll(8)], D: d.divisor(limbs), T: api.Term{K: d.number(limbs)}}
	for range 1 + d.roll(2) {
		x.T.Parts = append(x.T.Parts, api.Part{Var: d.variable(), C: d.coefficient()})
	}
	return x
}

// several draws numbers of nodes, mostly of no constant, often of the last ones.
func (d *dice) several(a *arena.Arena, many int) []int {
	var ids []int
	for range many {
		switch {
		case d.roll(3) == 0:
			ids = append(ids, max(0, a.Len()-1-d.roll(3)))
		case d.roll(15) == 0 || a.Len() == 2:
			ids = append(ids, d.roll(2))
		default:
			ids = append(ids, 2+d.roll(a.Len()-2))
		}
	}
	return ids
}

// grown is an arena with what was drawn there, from some atoms on, not made simpler. The same dice and the same bounds make
// the same one.
func grown(t *testing.T, d *dice, nodes, limbs int) *arena.Arena {
	t.Helper()
	a := arena.New(meterOf(t, nodes, limbs))
	d.single = d.roll(2) == 0
	plain := d.roll(3) > 0
	for range 3 + d.roll(6) {
		one := d.atom(limbs)
		a.Atom(one)
		if d.roll(3) == 0 {
			a.Atom(atom.Negate(one))
		}
	}
	for range 1 + d.roll(8) {
		if !plain && d.roll(3) == 0 {
			a.Bind(api.Some+d.roll(2), d.variable(), d.several(a, 1)[0])
		} else {
			a.Join(api.And+d.roll(5)/3, d.several(a, 2+d.roll(3))...)
		}
	}
	return a
}

// twins are two arenas with the same formulas.
func twins(t *testing.T, d *dice, nodes, limbs int) (*arena.Arena, *arena.Arena) {
	t.Helper()
	twin := *d
	return grown(t, d, nodes, limbs), grown(t, &twin, nodes, limbs)
}

// asking draws a call, mostly of one of the last nodes and of all that is free there, rarely with a number of no node, a
// variable that stands twice, or one that is not told.
func (d *dice) asking(a *arena.Arena, limbs int) asking {
	nodes := a.Len()
	id := max(0, nodes-1-d.roll(3))
	if d.roll(6) == 0 {
		id = d.roll(nodes)
	}
	free := a.Free(id)
	if d.roll(25) == 0 {
		id = []int{-1, nodes, nodes + 1, least, most}[d.roll(5)]
	}
	if len(free) < 2 && d.roll(2) == 0 {
		return oneOf(id, append(free, d.variable())[0])
	}
	if d.roll(20) == 0 {
		return oneOf(id, d.variable())
	}
	q := findOf(id, nil, nil)
	for _, v := range append(free, d.variable()) {
		if d.roll(4) > 0 && !slices.Contains(q.vars, v) {
			q.vars = slices.Insert(q.vars, d.roll(len(q.vars)+1), v)
		} else if d.roll(12) > 0 {
			q.vals = slices.Insert(q.vals, d.roll(len(q.vals)+1), bigVal(v, d.number(limbs)))
		}
	}
	for range d.roll(3) {
		q.vals = slices.Insert(q.vals, d.roll(len(q.vals)+1), bigVal(d.variable(), d.number(limbs)))
	}
	if len(q.vars) > 0 && d.roll(25) == 0 {
		q.vars = append(q.vars, q.vars[d.roll(len(q.vars))])
	}
	return q
}

// Calls that are drawn are answered as the slow ones are, and the arena is the same behind them: what was made, in which
// order, and what was counted.
func TestDrawnCalls(t *testing.T) {
	d := &dice{state: 201}
	seen, refused := map[string]int{}, map[api.Errno]int{}
	for range drawn {
		limbs := 1 + d.roll(3)
		a, b := twins(t, d, 20+d.roll(180), limbs)
		row := tellArena(a)
		for range 1 + d.roll(5) {
			q := d.asking(a, limbs)
			row += "\n" + q.String()
			got, want := q.ask(a), slow{b, seen}.answered(q)
			if got.String() != want.String() || tellArena(a) != tellArena(b) {
				t.Fatalf("%s: %s, want %s\n%s\nwant\n%s", short(row), got, want, short(tellArena(a)), short(tellArena(b)))
			}
			refused[got.e]++
		}
	}
	for _, what := range []string{"long period", "several low marks", "at the first point", "at the last point", "between", "at no point", "quantifiers", "values", "values that are none", "nothing", "several found"} {
		if seen[what] < drawn/50 {
			t.Errorf("%s: %d times, in %v", what, seen[what], seen)
		}
	}
	if seen["lost on the way"] > 0 {
		t.Errorf("lost on the way: %d times", seen["lost on the way"])
	}
	for _, e := range []api.Errno{api.OK, api.ErrNode, api.ErrQuant, api.ErrFree, api.ErrArg, api.ErrArity, api.ErrNodes, api.ErrLimbs} {
		if refused[e] < drawn/50 {
			t.Errorf("refused: %v", refused)
		}
	}
}

// With each number of nodes that a meter may have, a call stops where the slow one does.
func TestDrawnBounds(t *testing.T) {
	d := &dice{state: 202}
	stopped := 0
	for range drawn / 5 {
		first := *d
		a := grown(t, d, api.MaxNodes, 3)
		q, was := d.asking(a, 2), a.Meter().Spent()
		q.ask(a)
		for nodes := max(1, was); nodes <= min(a.Meter().Spent(), was+60); nodes++ {
			again := first
			a, b := twins(t, &again, nodes, 3)
			got, want := q.ask(a), slow{b, map[string]int{}}.answered(q)
			if got.String() != want.String() || tellArena(a) != tellArena(b) {
				t.Fatalf("%s with %d nodes: %s, want %s\n%s\nwant\n%s", q, nodes, got, want, short(tellArena(a)), short(tellArena(b)))
			}
			if got.e == api.ErrNodes {
				stopped++
			}
		}
	}
	if stopped < drawn/4 {
		t.Errorf("stopped %d times", stopped)
	}
}
