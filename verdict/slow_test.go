package verdict_test

import (
	"slices"
	"testing"

	"riddle/api"
	"riddle/arena"
	"riddle/drive"
	"riddle/lower"
	"riddle/meter"
	"riddle/periods"
	"riddle/raise"
	"riddle/subst"
	"riddle/syntax"
	"riddle/witness"
)

// A slow one does what the chapter says, word by word; tests hold the six calls against it. What its arena and its meter have
// come to can be looked at behind it.
type slow struct {
	a      *arena.Arena
	points int
}

func (s *slow) begin() {
	m, _ := meter.New(2000, 8)
	s.a = arena.New(m)
}

// spent is what was counted in all: each node that is there but for the two constants, and each point.
func (s *slow) spent() int { return s.a.Len() - 2 + s.points }

func (s *slow) lowered(t api.Tree) (int, api.Errno) {
	s.begin()
	return lower.From(s.a, t)
}

func (s *slow) driven(id int) (int, []api.Step, api.Errno) {
	id, steps, e := drive.Run(s.a, id)
	for _, step := range steps {
		s.points += step.Points
	}
	return id, steps, e
}

func (s *slow) answer(q asking) answer {
	if e := syntax.Check(q.tree); e != api.OK {
		return answer{call: q.call, e: e}
	}
	free := freeIn(q.tree)
	var vals []api.Value
	for i, k := range q.vals {
		vals = append(vals, api.Value{Var: i, N: k})
	}
	var a answer
	switch q.call {
	case eliminate:
		a = s.eliminate(q.tree, free)
	case decide:
		a = s.decide(q.tree, free)
	case eval:
		a = s.eval(q.tree, free, vals)
	case find:
		a = s.witness(q.tree, free, vals)
	case cost:
		a = s.cost(q.tree)
	case solutions:
		a = s.solutions(q.tree, free)
	}
	if a.e != api.OK {
		a = answer{e: a.e}
	}
	a.call = q.call
	return a
}

func (s *slow) eliminate(t api.Tree, free []string) answer {
	id, e := s.lowered(t)
	if e != api.OK {
		return answer{e: e}
	}
	id, steps, e := s.driven(id)
	if e != api.OK {
		return answer{e: e}
	}
	tree, e := raise.To(s.a, id, free)
	return answer{tree: tree, steps: steps, e: e}
}

func (s *slow) cost(t api.Tree) answer {
	id, e := s.lowered(t)
	if e != api.OK {
		return answer{e: e}
	}
	_, _, e = s.driven(id)
	return answer{count: s.spent(), e: e}
}

func (s *slow) decide(t api.Tree, free []string) answer {
	if len(free) > 0 {
		return answer{e: api.ErrOpen}
	}
	id, e := s.lowered(t)
	if e != api.OK {
		return answer{e: e}
	}
	id, _, e = s.driven(id)
	return answer{is: id == 1, e: e}
}

func (s *slow) eval(t api.Tree, free []string, vals []api.Value) answer {
	if len(vals) != len(free) {
		return answer{e: api.ErrArity}
	}
	id, e := s.lowered(t)
	if e != api.OK {
		return answer{e: e}
	}
	id, e = subst.Instance(s.a, id, vals)
	if e != api.OK {
		return answer{e: e}
	}
	id, _, e = s.driven(id)
	return answer{is: id == 1, e: e}
}

// witness takes M's node from the end of the rows of quantifiers, and numbers the leading names behind the free ones.
func (s *slow) witness(t api.Tree, free []string, vals []api.Value) answer {
	if t.Kind != api.TreeSome {
		return answer{e: api.ErrShape}
	}
	if len(vals) != len(free) {
		return answer{e: api.ErrArity}
	}
	id, e := s.lowered(t)
	if e != api.OK {
		return answer{e: e}
	}
	var vars []int
	for t.Kind == api.TreeSome {
		for range t.Names {
			vars = append(vars, len(free)+len(vars))
			kids := slices.DeleteFunc(s.a.Reach(id), func(kid int) bool { return kid == id })
			// A Some has one kid, and all that it reaches else hangs below that one.
			id = slices.Max(append(kids, 0))
			if len(kids) == 0 {
				panic("no kid")
			}
		}
		t = t.Kids[0]
	}
	l, is, e := witness.Find(s.a, id, vars, vals)
	if e == api.OK && !is {
		e = api.ErrNone
	}
	return answer{list: l, e: e}
}

func (s *slow) solutions(t api.Tree, free []string) answer {
	if len(free) != 1 {
		return answer{e: api.ErrFree}
	}
	id, e := s.lowered(t)
	if e != api.OK {
		return answer{e: e}
	}
	id, _, e = s.driven(id)
	if e != api.OK {
		return answer{e: e}
	}
	set, e := periods.Of(s.a, id, 0)
	return answer{set: set, e: e}
}

// asking draws a call of a formula, mostly with as many values as there are free names; of a witness mostly with quantifiers
// ahead of it, of solutions with one free name. Rarely there is hardly room for it.
func (d *dice) asking() asking {
	limbs := 0
	if d.roll(3) == 0 {
		limbs = 9
	}
	u := d.formula(d.roll(4)+d.roll(6)/5, limbs, d.quantifier)
	q := asking{call: d.roll(calls)}
	names := freeIn(u)
	switch {
	case d.roll(12) == 0:
		u = d.spoilt(u)
	case q.call == find && d.roll(8) > 0:
		for range 1 + d.roll(3) {
			u = some(u, d.names()...)
		}
	case q.call == decide && len(names) > 0 && d.roll(8) > 0:
		u = bind(api.TreeSome+d.roll(2), names, u)
	case q.call == solutions && len(names) > 1 && d.roll(8) > 0:
		u = bind(api.TreeSome+d.roll(2), names[1:], u)
	}
	if d.roll(12) == 0 {
		u = behind(u, idle(api.MaxNodes-d.roll(30)))
	}
	q.tree = u
	if q.call == eval || q.call == find {
		q.vals = d.values(max(0, len(freeIn(u))-d.roll(12)/11+d.roll(12)/11), limbs)
	}
	return q
}

// Calls that are drawn are answered as the slow ones are.
func TestDrawnCalls(t *testing.T) {
	d := &dice{state: 214}
	var seen [calls]map[api.Errno]int
	for call := range calls {
		seen[call] = map[api.Errno]int{}
	}
	for range 2 * drawn {
		q := d.asking()
		s := &slow{}
		got, want := q.ask(), s.answer(q)
		if got.String() != want.String() {
			t.Fatalf("%s: %s, want %s", q, short(got.String()), short(want.String()))
		}
		seen[q.call][got.e]++
		if q.call == cost && got.e == api.OK && got.count != s.a.Meter().Spent() {
			t.Fatalf("%s: %s, the meter: %d", q, got, s.a.Meter().Spent())
		}
	}
	for call, want := range [calls][]api.Errno{
		eliminate: {api.OK, api.ErrArg, api.ErrNodes, api.ErrLimbs}, decide: {api.OK, api.ErrArg, api.ErrOpen, api.ErrNodes, api.ErrLimbs}, eval: {api.OK, api.ErrArg, api.ErrArity, api.ErrLimbs},
		find: {api.OK, api.ErrArg, api.ErrShape, api.ErrArity, api.ErrNone, api.ErrNodes, api.ErrLimbs}, cost: {api.OK, api.ErrArg, api.ErrNodes, api.ErrLimbs}, solutions: {api.OK, api.ErrArg, api.ErrFree, api.ErrLimbs},
	} {
		for _, e := range want {
			if seen[call][e] < 5 || seen[call][api.OK] < drawn/8 {
				t.Errorf("%s: %v", asking{call: call}.name(), seen[call])
				break
			}
		}
	}
}

// Of a drawn question with as many idle nodes ahead as leave just enough the answer is the same, and with one more it is
// refused, where the slow one is.
func TestDrawnBounds(t *testing.T) {
	d := &dice{state: 215}
	stopped := [calls]int{}
	for range drawn / 10 {
		q := d.asking()
		s := &slow{}
		if s.answer(q).e != api.OK || s.a.Meter().Spent() > api.MaxNodes/4 {
			continue
		}
		left := api.MaxNodes - s.a.Meter().Spent()
		for nodes := left - 2; nodes <= left+1; nodes++ {
			padded := q
			padded.tree = behind(q.tree, idle(nodes))
			got, want := padded.ask(), (&slow{}).answer(padded)
			if got.String() != want.String() {
				t.Fatalf("%s: %s, want %s", padded, short(got.String()), short(want.String()))
			}
			if got.e == api.ErrNodes {
				stopped[q.call]++
			}
		}
	}
	for call, times := range stopped {
		if times < 5 {
			t.Errorf("%s: stopped %d times", asking{call: call}.name(), times)
		}
	}
}

// behind is a formula with another one ahead of what stands behind its leading quantifiers.
func behind(t, first api.Tree) api.Tree {
	if t.Kind != api.TreeSome || len(t.Kids) == 0 {
		return and(first, t)
	}
	return bind(t.Kind, t.Names, behind(t.Kids[0], first))
}
