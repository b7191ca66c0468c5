package simp_test

import (
	"slices"
	"testing"

	"riddle/api"
	"riddle/arena"
	"riddle/atom"
	"riddle/simp"
)

// values are those of the variables 0, 1 and 2.
type values [3]int

func (v values) list() []api.Value {
	var l []api.Value
	for of, value := range v {
		l = append(l, api.Value{Var: of, N: n(value)})
	}
	return l
}

// truth tells of formulas whether they are true. Quantifiers go over a few integers alone: what is equivalent under all
// values, node by node, is so there, too.
type truth struct {
	a     *arena.Arena
	known map[int]map[values]bool
}

func truthOf(a *arena.Arena) truth { return truth{a, map[int]map[values]bool{}} }

func (u truth) is(id int, v values) bool {
	if known, is := u.known[id][v]; is {
		return known
	}
	if u.known[id] == nil {
		u.known[id] = map[values]bool{}
	}
	u.known[id][v] = u.look(id, v)
	return u.known[id][v]
}

func (u truth) look(id int, v values) bool {
	node := whole(u.a, id)
	isSo := func(kid int) bool { return u.is(kid, v) }
	isNot := func(kid int) bool { return !u.is(kid, v) }
	withIt := func(value int) bool {
		bound := v
		bound[node.Var] = value
		return u.is(node.Kids[0], bound)
	}
	few := []int{-2, -1, 0, 1, 3}
	switch node.Kind {
	case api.And:
		return !slices.ContainsFunc(node.Kids, isNot)
	case api.Or:
		return slices.ContainsFunc(node.Kids, isSo)
	case api.Some:
		return slices.ContainsFunc(few, withIt)
	case api.All:
		return !slices.ContainsFunc(few, func(value int) bool { return !withIt(value) })
	}
	is, e := atom.Holds(api.Atom{Kind: node.Kind, D: node.D, T: node.T}, v.list())
	return is && e == api.OK
}

// wants tells whether what comes of a call should be true.
func (u truth) wants(c call, v values) bool {
	isSo := func(id int) bool { return u.is(id, v) }
	switch c.name {
	case "And":
		return !slices.ContainsFunc(c.ids, func(id int) bool { return !isSo(id) })
	case "Or":
		return slices.ContainsFunc(c.ids, isSo)
	case "Negate":
		return !isSo(c.ids[0])
	}
	return isSo(c.ids[0])
}

func (d *dice) values() values {
	return values{d.roll(9) - 4, d.roll(9) - 4, d.roll(9) - 4}
}

// What comes is true under values just where it should be.
func TestP95Equivalent(t *testing.T) {
	d := &dice{state: 92}
	seen := map[string][2]int{}
	for range drawn {
		a := grown(t, d, 40, 2000, 8)
		for range 4 {
			c := d.call(a.Len())
			got, e := c.do(a)
			if e != api.OK {
				continue
			}
			u := truthOf(a)
			for range 25 {
				v := d.values()
				is := u.is(got, v)
				if is != u.wants(c, v) {
					t.Fatalf("%s: %d is %v under %v, in\n%s", c, got, is, v, short(tellArena(a)))
				}
				count := seen[c.name]
				if is {
					count[0]++
				} else {
					count[1]++
				}
				seen[c.name] = count
			}
		}
	}
	for _, name := range names() {
		if min(seen[name][0], seen[name][1]) < drawn {
			t.Errorf("%s: true and false %v times", name, seen[name])
		}
	}
}

// Every two Less and divisibilities of one variable, joined, under all values near their bounds.
func TestP95PairsOfAtoms(t *testing.T) {
	a := arena.New(nil)
	var ids []int
	for k := -3; k <= 3; k++ {
		ids = append(ids, x(1, k)(a), x(-1, k)(a))
	}
	for _, d := range []int{2, 3, 4} {
		for k := range d {
			ids = append(ids, div(d, k, p(0, 1))(a), not(d, k, p(0, 1))(a))
		}
	}
	u := truthOf(a)
	for _, one := range ids {
		for _, two := range ids {
			for _, name := range []string{"And", "Or"} {
				c := call{name, []int{one, two}}
				got, e := c.do(a)
				if e != api.OK {
					t.Fatalf("%s: %v", c, e)
				}
				for value := -13; value <= 13; value++ {
					if v := (values{value}); u.is(got, v) != u.wants(c, v) {
						t.Fatalf("%s: %d is %v under %v", c, got, u.is(got, v), v)
					}
				}
			}
		}
	}
}

// shuffled is the same numbers in another order, some of them several times.
func (d *dice) shuffled(ids []int) []int {
	ids = slices.Clone(ids)
	for range len(ids) {
		ids = append(ids, ids[d.roll(len(ids))])[:len(ids)+d.roll(2)]
	}
	for i := range ids {
		j := d.roll(i + 1)
		ids[i], ids[j] = ids[j], ids[i]
	}
	return ids
}

// And and Or hang neither on the order of the ids nor on how often one stands there.
func TestP95OrderDoesNotMatter(t *testing.T) {
	d := &dice{state: 93}
	for range drawn {
		a := grown(t, d, 50, 2000, 8)
		for range 4 {
			c := call{names()[d.roll(2)], d.several(a.Len(), 9)}
			got, e := c.do(a)
			behind := tellArena(a)
			for range 4 {
				other := call{c.name, d.shuffled(c.ids)}
				if again, e2 := other.do(a); again != got || e2 != e || tellArena(a) != behind {
					t.Fatalf("%s: %d, %v; %s: %d, %v, in\n%s", c, got, e, other, again, e2, short(tellArena(a)))
				}
			}
		}
	}
}

// In another arena, whose nodes have other numbers, what is joined is the same formula: it hangs on no number.
func TestP95NumbersDoNotMatter(t *testing.T) {
	forms := of(x(1, 0), x(1, -3), x(-1, 2), y(1, 1), y(-1, 1), div(2, 0, p(0, 1)), not(2, 0, p(0, 1)), div(2, 1, p(0, 1)), or(x(1, 0), y(1, 1)), or(x(1, -3), y(1, 1)), and(x(1, 0), y(1, 1)),
		and(x(-1, 2), and(y(1, 1), div(2, 0, p(0, 1)))), or(or(x(1, 0), y(1, 1)), div(2, 1, p(0, 1))), some(0, x(1, 0)), always(), never())
	d := &dice{state: 94}
	for range drawn {
		var chosen []form
		for range 1 + d.roll(5) {
			chosen = append(chosen, forms[d.roll(len(forms)-d.roll(3))])
		}
		name := names()[d.roll(2)]
		var texts [2]string
		for i := range texts {
			a := arena.New(nil)
			for range i * len(forms) {
				forms[d.roll(len(forms))](a)
			}
			got, _ := call{name, layAll(a, chosen)}.do(a)
			texts[i] = unnumbered(a, got)
		}
		if texts[0] != texts[1] {
			t.Fatalf("%s: %s and %s", name, texts[0], texts[1])
		}
	}
}

// unnumbered tells a formula without the numbers of its nodes.
func unnumbered(a *arena.Arena, id int) string {
	node := whole(a, id)
	var kids []string
	for _, kid := range node.Kids {
		kids = append(kids, unnumbered(a, kid))
	}
	slices.Sort(kids)
	node.Kids = nil
	text := tellNode(node)
	for _, kid := range kids {
		text += "{" + kid + "}"
	}
	return text
}

// And of one that And has answered is it, and nothing is made; so it is with Or.
func TestP95OfWhatWasAnswered(t *testing.T) {
	d := &dice{state: 95}
	for range drawn {
		a := grown(t, d, 50, 2000, 8)
		for range 4 {
			c := call{names()[d.roll(2)], d.several(a.Len(), 9)}
			got, e := c.do(a)
			if e != api.OK {
				t.Fatalf("%s: %v", c, e)
			}
			behind := tellArena(a)
			again, e := call{c.name, []int{got}}.do(a)
			if again != got || e != api.OK || tellArena(a) != behind {
				t.Fatalf("%s: %d; of that %d, %v, in\n%s", c, got, again, e, short(tellArena(a)))
			}
		}
	}
}

// Again of what Again has answered is it, where no quantifier is, and nothing is made.
func TestP95AgainAndAgain(t *testing.T) {
	d := &dice{state: 96}
	plain, changed := 0, 0
	for range drawn {
		a := grown(t, d, 50, 2000, 8)
		for id := range a.Len() {
			if !a.Plain(id) {
				continue
			}
			got, e := simp.Again(a, id)
			behind := tellArena(a)
			again, e2 := simp.Again(a, got)
			if e != api.OK || e2 != api.OK || again != got || tellArena(a) != behind {
				t.Fatalf("Again of %d is %d, %v; of that %d, %v, in\n%s", id, got, e, again, e2, short(tellArena(a)))
			}
			plain++
			if got != id {
				changed++
			}
		}
	}
	if min(plain, changed) < drawn {
		t.Errorf("%d plain formulas, of which %d changed", plain, changed)
	}
}

// What Negate and Again answer has no other free variables, and is plain where the formula is.
func TestP95NothingIsBroughtIn(t *testing.T) {
	d := &dice{state: 97}
	for range drawn / 3 {
		a := grown(t, d, 50, 2000, 8)
		for id := range a.Len() {
			for _, name := range []string{"Negate", "Again"} {
				got, e := call{name, []int{id}}.do(a)
				if e != api.OK {
					// An opposite may have a number that the meter refuses.
					continue
				}
				free := a.Free(id)
				if slices.ContainsFunc(a.Free(got), func(v int) bool { return !slices.Contains(free, v) }) || a.Plain(id) && !a.Plain(got) {
					t.Fatalf("%s(%d): %d, in\n%s", name, id, got, short(tellArena(a)))
				}
			}
		}
	}
}
