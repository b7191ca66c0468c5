package periods_test

import (
	"slices"
	"testing"

	"riddle/api"
	"riddle/arena"
	"riddle/ground"
	"riddle/periods"
	"riddle/simp"
	"riddle/zint"
)

// few draws sets that go together: their periods divide one number that may be a period.
func (d *dice) few(t *testing.T, count int) []*periods.Set {
	t.Helper()
	whole := wholes()[d.roll(len(wholes()))]
	var l []*periods.Set
	for len(l) < count {
		s := d.set(t, d.roll(8), whole).s
		if whole%s.Period() == 0 {
			l = append(l, s)
		}
	}
	return l
}

// looks are numbers next to the cuts of several sets and far from all, and some others.
func (d *dice) looks(l ...*periods.Set) []api.Int {
	var cuts []api.Int
	for _, s := range l {
		cuts = append(cuts, s.Cuts()...)
	}
	all := probes(25+d.roll(10), cuts)
	var some []api.Int
	for range 60 {
		some = append(some, all[d.roll(len(all))], zint.Add(d.number(6), n(d.roll(9000)-4500)))
	}
	return some
}

// Meet is the numbers that are in both, Join those that are in one, Rest those that are not in it.
func TestP185Numbers(t *testing.T) {
	d := &dice{state: 185}
	var seen [2][2]int
	for range drawn {
		l := d.few(t, 2)
		s, o := l[0], l[1]
		both, either, rest := meet(s, o), join(s, o), s.Rest()
		for _, k := range d.looks(s, o) {
			inS, inO := s.Has(k), o.Has(k)
			if both.Has(k) != (inS && inO) || either.Has(k) != (inS || inO) || rest.Has(k) == inS {
				t.Fatalf("of %s: %v in %s, %v in %s; Meet %v, Join %v, Rest %v", tellInt(k), inS, short(tellSet(s)), inO, short(tellSet(o)), both.Has(k), either.Has(k), rest.Has(k))
			}
			seen[bitOf(inS)][bitOf(inO)]++
		}
	}
	if min(seen[0][0], seen[0][1], seen[1][0], seen[1][1]) < drawn {
		t.Errorf("seen %v", seen)
	}
}

func bitOf(is bool) int {
	if is {
		return 1
	}
	return 0
}

// Below the first cut, from the last one on, and between two cuts, x is in it just if x + P is, where both lie there.
func TestP185ThePeriod(t *testing.T) {
	d := &dice{state: 186}
	ahead, between, last := 0, 0, 0
	for range drawn {
		s := d.few(t, 1)[0]
		cuts := s.Cuts()
		for _, k := range d.looks(s) {
			next := plus(k, s.Period())
			isBehind := func(x api.Int) int {
				return len(cuts) - len(slices.DeleteFunc(slices.Clone(cuts), func(cut api.Int) bool { return zint.Cmp(cut, x) <= 0 }))
			}
			if isBehind(k) != isBehind(next) {
				continue
			}
			if s.Has(k) != s.Has(next) {
				t.Fatalf("%s: of %s and a period more it says otherwise", short(tellSet(s)), tellInt(k))
			}
			switch isBehind(k) {
			case len(cuts):
				last++
			case 0:
				ahead++
			default:
				between++
			}
		}
	}
	if min(ahead, between, last) < drawn {
		t.Errorf("%d ahead of all cuts, %d between, %d behind", ahead, between, last)
	}
}

// atom draws one of the variable 0.
func (d *dice) atom(whole int) api.Atom {
	x := api.Atom{Kind: api.Less + d.roll(3), D: n(d.period(whole)), T: api.Term{K: d.number(3), Parts: []api.Part{{Var: 0, C: n(1 + d.roll(6))}}}}
	if d.roll(20) == 0 {
		x.D = n([]int{4096, 4097, 5000, 241, 3 * 4097}[d.roll(5)])
	}
	if d.roll(4) == 0 {
		x.T.Parts[0].C = d.number(2)
	}
	if d.roll(2) == 0 {
		x.T.Parts[0].C = opposite(x.T.Parts[0].C)
	}
	return x
}

// among draws the number of a node.
func (d *dice) among(nodes int) int {
	if d.roll(3) == 0 {
		return d.roll(nodes)
	}
	return nodes - 1 - d.roll(min(nodes, 6))
}

// grown is an arena with formulas of the variable 0, not made simpler.
func (d *dice) grown() *arena.Arena {
	a := arena.New(nil)
	whole := wholes()[d.roll(len(wholes()))]
	for range 2 + d.roll(10) {
		a.Atom(d.atom(whole))
	}
	for range 1 + d.roll(12) {
		if d.roll(4) == 0 {
			a.Atom(d.atom(whole))
			continue
		}
		var kids []int
		for range 2 + d.roll(3) {
			kids = append(kids, d.among(a.Len()))
		}
		a.Join(api.And+d.roll(2), kids...)
	}
	return a
}

// Of is what its model is: period, cuts and numbers, and refused where that is.
func TestP183Drawn(t *testing.T) {
	d := &dice{state: 183}
	refused, joins := 0, 0
	for range drawn {
		a := d.grown()
		id := d.among(a.Len())
		s, e := setOf(t, a, id, 0)
		m, wantE := slowOf(a, id, 0)
		if e != wantE {
			t.Fatalf("Of(%d): %v, want %v, in\n%s", id, e, wantE, tellArena(a))
		}
		if e != api.OK {
			refused++
			continue
		}
		models(t, "in "+tellArena(a), s, m)
		if whole(a, id).Kind >= api.And && m.period > 1 && len(m.cuts) > 0 {
			joins++
		}
	}
	if min(refused, joins) < drawn/20 {
		t.Errorf("%d refused, %d of both kinds of atoms", refused, joins)
	}
}

// Of has the values under which the formula is true.
func TestP185Formulas(t *testing.T) {
	d := &dice{state: 187}
	var seen [2]int
	for range drawn {
		a := d.grown()
		id := d.among(a.Len())
		s, e := periods.Of(a, id, 0)
		if e != api.OK {
			continue
		}
		numbers := d.looks(s)
		for _, reached := range a.Reach(id) {
			// Next to where an atom changes, also where the set does not.
			if k := whole(a, reached).T.K; d.roll(3) == 0 {
				numbers = append(numbers, k, plus(k, 1), plus(k, -1), opposite(k), plus(opposite(k), 1))
			}
		}
		for _, k := range numbers {
			is, e := ground.Eval(a, id, []api.Value{{Var: 0, N: k}})
			if e != api.OK || is != s.Has(k) {
				t.Fatalf("of %d, %s: %v, %v, and Has says %v, in\n%s", id, tellInt(k), is, e, s.Has(k), tellArena(a))
			}
			if id > 1 {
				seen[bitOf(is)]++
			}
		}
	}
	if min(seen[0], seen[1]) < 10*drawn {
		t.Errorf("false and true %v times", seen)
	}
}

// What simp makes of formulas has the sets that the calls make: And the Meet, Or the Join, Negate the Rest.
func TestP185Simplified(t *testing.T) {
	d := &dice{state: 188}
	count := 0
	for range drawn {
		a := d.grown()
		first, second := d.among(a.Len()), d.among(a.Len())
		s, e := periods.Of(a, first, 0)
		o, e2 := periods.Of(a, second, 0)
		if e != api.OK || e2 != api.OK {
			continue
		}
		both, e := s.Meet(o)
		if e != api.OK {
			continue
		}
		either := join(s, o)
		for i, id := range []int{laid(simp.And(a, first, second)), laid(simp.Or(a, first, second)), laid(simp.Negate(a, first)), laid(simp.Again(a, second))} {
			want := []*periods.Set{both, either, s.Rest(), o}[i]
			if got := made(periods.Of(a, id, 0)); !got.Same(want) || !want.Same(got) {
				t.Fatalf("of %d and %d, %d: %s, want the same as %s, in\n%s", first, second, id, short(tellSet(got)), short(tellSet(want)), tellArena(a))
			}
		}
		count++
	}
	if count < drawn/2 {
		t.Errorf("only %d", count)
	}
}

// Meet and Join hang neither on the order nor on how three are grouped; they come to the same period and cuts, too.
func TestP186OrderAndGroups(t *testing.T) {
	d := &dice{state: 189}
	for range drawn / 2 {
		l := d.few(t, 3)
		for _, take := range []func(first *periods.Set, others ...*periods.Set) *periods.Set{meet, join} {
			alike(t, "turned round", take(l[0], l[1]), take(l[1], l[0]))
			want := take(take(l[0], l[1]), l[2])
			alike(t, "grouped", take(l[0], take(l[1], l[2])), want)
			alike(t, "in another order", take(l[2], l[0], l[1]), want)
			alike(t, "twice", take(want, l[1], l[2], l[0], want), want)
		}
		// What is in both is in one: of these two the one swallows the other, but for the period.
		if !join(l[0], meet(l[0], l[1])).Same(l[0]) || !meet(l[0], join(l[0], l[1])).Same(l[0]) {
			t.Fatalf("%s; %s", short(tellSet(l[0])), short(tellSet(l[1])))
		}
		if t.Failed() {
			return
		}
	}
}

// Rest of Rest is the set; Rest of Meet is Join of the Rests, and turned round.
func TestP186Rest(t *testing.T) {
	d := &dice{state: 190}
	for range drawn {
		l := d.few(t, 2)
		s, o := l[0], l[1]
		alike(t, "Rest of Rest", s.Rest().Rest(), s)
		alike(t, "Rest of Meet", meet(s, o).Rest(), join(s.Rest(), o.Rest()))
		alike(t, "Rest of Join", join(s, o).Rest(), meet(s.Rest(), o.Rest()))
		if s.Same(s.Rest()) || !meet(s, s.Rest()).Same(none()) || !join(s, s.Rest()).Same(every()) {
			t.Fatal(short(tellSet(s)))
		}
		if t.Failed() {
			return
		}
	}
}

// Same is an equality, and goes with all that is made of a set.
func TestP186Same(t *testing.T) {
	d := &dice{state: 191}
	same, other := 0, 0
	for range drawn / 5 {
		l := d.few(t, 4)
		s, o := l[0], l[1]
		// Other ways to the same numbers, with a longer period or with cuts that came and went.
		again := join(meet(s, o), meet(s, o.Rest()))
		third := meet(join(s, l[2]), join(s, l[2].Rest()), join(s, l[3], l[3].Rest()))
		all := []*periods.Set{s, again, third, o, l[2], join(o, meet(o, s)), none(), every()}
		for i, a := range all {
			if !a.Same(a) {
				t.Fatalf("%s is not itself", short(tellSet(a)))
			}
			for j, b := range all {
				if a.Same(b) != b.Same(a) || a.Same(b) != a.Rest().Same(b.Rest()) {
					t.Fatalf("%s; %s: Same %v, %v", short(tellSet(a)), short(tellSet(b)), a.Same(b), b.Same(a))
				}
				for _, c := range all {
					if a.Same(b) && b.Same(c) && !a.Same(c) {
						t.Fatalf("%s; %s; %s", short(tellSet(a)), short(tellSet(b)), short(tellSet(c)))
					}
				}
				if i < 3 && j < 3 && !a.Same(b) {
					t.Fatalf("%s; %s: not the same", short(tellSet(a)), short(tellSet(b)))
				}
				if a.Same(b) && i != j {
					same++
					alike(t, "what is made of the same", meet(a, l[3], b), meet(b, l[3], a))
				} else {
					other++
				}
			}
		}
	}
	if min(same, other) < drawn/2 {
		t.Errorf("the same %d times, not %d times", same, other)
	}
}
