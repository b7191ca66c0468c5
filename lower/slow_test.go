package lower_test

import (
	"slices"
	"testing"

	"riddle/api"
	"riddle/arena"
	"riddle/atom"
	"riddle/lower"
	"riddle/simp"
	"riddle/syntax"
	"riddle/term"
	"riddle/zint"
)

// The slow calls do what the chapter says, word by word; tests hold the calls against them.

// A noted tree has its place by itself: what was written there once is the same on both sides.
type noted struct {
	api.Tree
	kids []*noted
	// first is the variable of a quantifier's first name.
	first int
}

func note(t api.Tree, next *int) *noted {
	p := &noted{Tree: t, first: *next}
	*next += len(t.Names)
	for _, kid := range t.Kids {
		p.kids = append(p.kids, note(kid, next))
	}
	return p
}

// A meaning is that of a name; of several the last one counts.
type meaning struct {
	name string
	v    int
}

func slowFree(t api.Tree, bound []string) []string {
	if t.Kind == api.TreeVar && !slices.Contains(bound, t.Name) {
		return []string{t.Name}
	}
	var free []string
	for _, kid := range t.Kids {
		free = append(free, slowFree(kid, slices.Concat(bound, t.Names))...)
	}
	slices.Sort(free)
	return slices.Compact(free)
}

func slowBound(t api.Tree) []string {
	bound := slices.Clone(t.Names)
	for _, kid := range t.Kids {
		bound = append(bound, slowBound(kid)...)
	}
	return bound
}

func slowNames(t api.Tree) []string {
	if syntax.Check(t) != api.OK {
		return nil
	}
	return append(slowFree(t, nil), slowBound(t)...)
}

// slowTerm is the sum of all that stands in a term, each with how many times it stands there.
func slowTerm(t api.Tree, times api.Int, scope []meaning) api.Term {
	switch t.Kind {
	case api.TreeNum:
		return api.Term{K: zint.Mul(times, t.N)}
	case api.TreeVar:
		for _, m := range slices.Backward(scope) {
			if m.name == t.Name {
				return api.Term{Parts: []api.Part{{Var: m.v, C: times}}}
			}
		}
		panic("a name without a meaning: " + t.Name)
	case api.TreeNeg:
		return slowTerm(t.Kids[0], zint.Neg(times), scope)
	case api.TreeMul:
		return slowTerm(t.Kids[0], zint.Mul(times, t.N), scope)
	}
	other := times
	if t.Kind == api.TreeSub {
		other = zint.Neg(times)
	}
	a, b := slowTerm(t.Kids[0], times, scope), slowTerm(t.Kids[1], other, scope)
	return api.Term{Parts: slices.Concat(a.Parts, b.Parts), K: zint.Add(a.K, b.K)}
}

// A refused error is thrown where an arena tells it.
type refused struct{ e api.Errno }

func must[T any](x T, e api.Errno) T {
	if e != api.OK {
		panic(refused{e})
	}
	return x
}

// A slow one is written row by row; it keeps nothing, so that what is kept is not to be seen.
type slow struct{ a *arena.Arena }

func (s slow) less(t api.Term) int { return must(s.a.Atom(atom.Less(t))) }

func (s slow) and(ids ...int) int { return must(simp.And(s.a, ids...)) }

func (s slow) or(ids ...int) int { return must(simp.Or(s.a, ids...)) }

func (s slow) all(kids []*noted, scope []meaning, side bool) []int {
	var ids []int
	for _, kid := range kids {
		ids = append(ids, s.node(kid, scope, side))
	}
	return ids
}

func (s slow) node(p *noted, scope []meaning, side bool) int {
	if p.Kind >= api.TreeLt && p.Kind <= api.TreeDivides {
		return s.atom(p, scope, side)
	}
	sideOf := func(i int, side bool) int { return s.node(p.kids[i], scope, side) }
	if side {
		switch p.Kind {
		case api.TreeTrue:
			return 1
		case api.TreeFalse:
			return 0
		case api.TreeNot:
			return sideOf(0, false)
		case api.TreeAnd:
			return s.and(s.all(p.kids, scope, true)...)
		case api.TreeOr:
			return s.or(s.all(p.kids, scope, true)...)
		case api.TreeImplies:
			return s.or(sideOf(0, false), sideOf(1, true))
		case api.TreeIff:
			return s.or(s.and(sideOf(0, true), sideOf(1, true)), s.and(sideOf(0, false), sideOf(1, false)))
		case api.TreeSome:
			return s.bound(api.Some, p, scope, true)
		}
		return s.bound(api.All, p, scope, true)
	}
	switch p.Kind {
	case api.TreeTrue:
		return 0
	case api.TreeFalse:
		return 1
	case api.TreeNot:
		return sideOf(0, true)
	case api.TreeAnd:
		return s.or(s.all(p.kids, scope, false)...)
	case api.TreeOr:
		return s.and(s.all(p.kids, scope, false)...)
	case api.TreeImplies:
		return s.and(sideOf(0, true), sideOf(1, false))
	case api.TreeIff:
		return s.or(s.and(sideOf(0, true), sideOf(1, false)), s.and(sideOf(0, false), sideOf(1, true)))
	case api.TreeSome:
		return s.bound(api.All, p, scope, false)
	}
	return s.bound(api.Some, p, scope, false)
}

func (s slow) bound(kind int, p *noted, scope []meaning, side bool) int {
	inner := slices.Clone(scope)
	for i, name := range p.Names {
		inner = append(inner, meaning{name, p.first + i})
	}
	id := s.node(p.kids[0], inner, side)
	for i := len(p.Names) - 1; i >= 0; i-- {
		id = must(s.a.Bind(kind, p.first+i, id))
	}
	return id
}

func (s slow) atom(p *noted, scope []meaning, side bool) int {
	one := term.Const(small(1))
	t := slowTerm(p.Kids[0], small(1), scope)
	if p.Kind == api.TreeDivides {
		if side {
			return must(s.a.Atom(must(atom.Div(p.N, t))))
		}
		return must(s.a.Atom(must(atom.Not(p.N, t))))
	}
	u := slowTerm(p.Kids[1], small(1), scope)
	switch {
	case p.Kind == api.TreeLt && side, p.Kind == api.TreeGe && !side:
		return s.less(term.Sub(u, t))
	case p.Kind == api.TreeLt, p.Kind == api.TreeGe:
		return s.less(term.Add(term.Sub(t, u), one))
	case p.Kind == api.TreeLe && side, p.Kind == api.TreeGt && !side:
		return s.less(term.Add(term.Sub(u, t), one))
	case p.Kind == api.TreeLe, p.Kind == api.TreeGt:
		return s.less(term.Sub(t, u))
	case p.Kind == api.TreeEq && side, p.Kind == api.TreeNe && !side:
		return s.and(s.less(term.Add(term.Sub(u, t), one)), s.less(term.Add(term.Sub(t, u), one)))
	}
	return s.or(s.less(term.Sub(u, t)), s.less(term.Sub(t, u)))
}

func slowFrom(a *arena.Arena, t api.Tree) (id int, e api.Errno) {
	if e := syntax.Check(t); e != api.OK {
		return 0, e
	}
	defer func() {
		if r, is := recover().(refused); is {
			id, e = 0, r.e
		}
	}()
	var scope []meaning
	for v, name := range slowFree(t, nil) {
		scope = append(scope, meaning{name, v})
	}
	next := len(scope)
	return slow{a}.node(note(t, &next), scope, true), api.OK
}

// Formulas that are drawn have the names, the node and the nodes on the way, in their order, that the slow calls say.
func TestDrawnFormulas(t *testing.T) {
	d := &dice{state: 101}
	refused, made, kinds := map[api.Errno]int{}, 0, map[int]int{}
	for range drawn {
		nodes, limbs := 1+d.roll(2+d.roll(60)), 1+d.roll(2)
		if d.roll(3) == 0 {
			nodes = 2000
		}
		a, b := arena.New(meterOf(t, nodes, limbs)), arena.New(meterOf(t, nodes, limbs))
		row := ""
		for range 1 + d.roll(3) {
			u := d.formula(2+d.roll(5), limbs, false)
			if d.roll(20) == 0 {
				u = d.spoilt(u)
			}
			row += short(tellTree(u)) + "\n"
			got, e := lower.From(a, u)
			want, wantE := slowFrom(b, u)
			if got != want || e != wantE || tellArena(a) != tellArena(b) {
				t.Fatalf("%sFrom: %d, %v, want %d, %v\n%s\nwant\n%s", row, got, e, want, wantE, short(tellArena(a)), short(tellArena(b)))
			}
			if names, want := lower.Names(u), slowNames(u); !slices.Equal(names, want) {
				t.Fatalf("%sNames: %q, want %q", row, names, want)
			}
			refused[e]++
			if e == api.OK {
				kinds[u.Kind]++
			}
		}
		made += a.Len()
	}
	// What was drawn has all that the test is for.
	if min(refused[api.ErrArg], refused[api.ErrNodes], refused[api.ErrLimbs]) < drawn/40 || made < 10*drawn {
		t.Errorf("refused %v, made %d", refused, made)
	}
	for kind := api.TreeLt; kind <= api.TreeAll; kind++ {
		if kinds[kind] < drawn/100 {
			t.Errorf("of the kind %d there were %d", kind, kinds[kind])
		}
	}
}

// Terms that are drawn are what the slow call says.
func TestDrawnTerms(t *testing.T) {
	d := &dice{state: 102}
	seen := map[api.Errno]int{}
	for range drawn {
		u := d.term(1+d.roll(6), 1+d.roll(3))
		if d.roll(20) == 0 {
			u = d.spoilt(u)
		}
		var names []string
		for range d.roll(12) {
			names = append(names, d.name())
		}
		got, e := lower.Term(u, names)
		want, wantE := api.Term{}, syntax.Check(of(api.TreeEq, u, num(0)))
		if wantE == api.OK {
			var scope []meaning
			for v, name := range slices.Backward(names) {
				scope = append(scope, meaning{name, v})
			}
			if slices.ContainsFunc(slowFree(u, nil), func(name string) bool { return !slices.Contains(names, name) }) {
				wantE = api.ErrFree
			} else {
				want = term.Norm(slowTerm(u, small(1), scope))
			}
		}
		if tellTerm(got) != tellTerm(want) || e != wantE || !term.Valid(got) {
			t.Fatalf("Term(%s, %q): %s, %v, want %s, %v", tellTree(u), names, tellTerm(got), e, tellTerm(want), wantE)
		}
		seen[e]++
	}
	if min(seen[api.OK], seen[api.ErrFree], 10*seen[api.ErrArg]) < drawn/10 {
		t.Errorf("answered %v", seen)
	}
}
