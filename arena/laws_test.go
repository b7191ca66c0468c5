package arena_test

import (
	"testing"

	"riddle/api"
	"riddle/arena"
)

// grown is an arena with what drawn calls made there.
func grown(d *dice, calls int) *arena.Arena {
	a := arena.New(nil)
	for range calls {
		d.act(a.Len(), 2).do(a)
	}
	return a
}

// remade is the call that makes a node.
func remade(x api.Node) act {
	switch x.Kind {
	case api.And, api.Or:
		return join(x.Kind, x.Kids...)
	case api.Some, api.All:
		return bind(x.Kind, x.Var, x.Kids[0])
	}
	return atomOf(api.Atom{Kind: x.Kind, D: x.D, T: x.T})
}

// A node's kids have lesser numbers than it, and are two or more, rising, or one of a quantifier.
func TestP86KidsAreLess(t *testing.T) {
	d := &dice{state: 82}
	for range drawn / 10 {
		a := grown(d, 200)
		for of := range a.Len() {
			x, _ := a.Node(of)
			last := -1
			for _, kid := range x.Kids {
				if kid <= last || kid >= of {
					t.Fatalf("node %d: %s", of, tell(x))
				}
				last = kid
			}
			if kids := len(x.Kids); x.Kind <= api.Not && kids > 0 || x.Kind > api.Or && kids != 1 || (x.Kind == api.And || x.Kind == api.Or) && kids < 2 {
				t.Fatalf("node %d: %s", of, tell(x))
			}
		}
	}
}

// No two nodes are the same, and what was made once is answered again with the same number, and counts nothing.
func TestP86EachOnce(t *testing.T) {
	d := &dice{state: 83}
	for range drawn / 10 {
		a := grown(d, 200)
		nodes, spent := a.Len(), a.Meter().Spent()
		first := map[string]int{}
		for of := range nodes {
			x, _ := a.Node(of)
			if other, is := first[tell(x)]; is {
				t.Fatalf("nodes %d and %d: %s", other, of, tell(x))
			}
			first[tell(x)] = of
			follow(t, a, line{remade(x), id(of)})
		}
		follow(t, a, line{length(), id(nodes)})
		counts(t, a.Meter(), spent, a.Meter().Over())
	}
}

// The meter has counted as many as were made.
func TestP86AsManyAsWereMade(t *testing.T) {
	d := &dice{state: 84}
	for range drawn / 10 {
		a, made := arena.New(nil), 0
		for range 200 {
			was := a.Len()
			c := d.act(was, 2)
			c.do(a)
			if c.call != isRelease {
				made += a.Len() - was
			}
		}
		counts(t, a.Meter(), made, a.Meter().Over())
	}
}

// distinct fails unless each call makes a node of its own, and finds it again.
func distinct(t *testing.T, a *arena.Arena, acts []act) {
	t.Helper()
	from := a.Len()
	for range 2 {
		for i, c := range acts {
			if got := c.do(a); got.String() != id(from+i).String() {
				t.Fatalf("%s: %s, want the number %d", c, got, from+i)
			}
		}
	}
	follow(t, a, line{length(), id(from + len(acts))})
}

// Nodes that differ in one field are two, though their numbers would be read alike if they were put one behind the other.

func TestP86DistinctJoins(t *testing.T) {
	a := arena.New(nil)
	var acts []act
	for i := range 43 {
		acts = append(acts, atomOf(v(i)))
	}
	distinct(t, a, acts)
	acts = nil
	for i := range 45 {
		for j := range i {
			acts = append(acts, join(api.And, j, i))
		}
	}
	for i := range 28 {
		for j := range i {
			acts = append(acts, join(api.Or, j, i))
		}
	}
	acts = append(acts, join(api.And, 1, 2, 3), join(api.And, 1, 2, 34), join(api.And, 1, 23, 4), join(api.And, 12, 3, 4), join(api.And, 1, 2, 3, 4), join(api.Or, 1, 2, 3), join(api.Or, 1, 2, 3, 4))
	distinct(t, a, acts)
}

func TestP86DistinctQuantifiers(t *testing.T) {
	a := arena.New(nil)
	var acts []act
	for i := range 30 {
		acts = append(acts, atomOf(v(i)))
	}
	distinct(t, a, acts)
	acts = nil
	for _, kind := range []int{api.Some, api.All} {
		for _, v := range []int{least, -21, -12, -11, -2, -1, 0, 1, 2, 3, 11, 12, 13, 21, 31, 111, 112, 121, most} {
			for kid := range 32 {
				acts = append(acts, bind(kind, v, kid))
			}
		}
	}
	distinct(t, a, acts)
}

func TestP86DistinctAtoms(t *testing.T) {
	a := arena.New(nil)
	vars := []int{-12, -2, -1, 0, 1, 2, 12, 21}
	numbers := []api.Int{n(0), n(1), n(-1), n(2), n(12), n(-2), above(1, 2), above(2, 1), above(0, 1), below(0, 1), above(12, 1), above(1, 12), above(1, 1, 2)}
	var acts []act
	for _, v := range vars {
		for _, k := range numbers {
			acts = append(acts, atomOf(less(bigOf(k, p(v, 1)))), atomOf(less(bigOf(k, p(v, -1)))))
		}
		for _, w := range vars {
			for _, c := range numbers {
				if w > v && len(c.Mag) > 0 {
					acts = append(acts, atomOf(less(of(0, p(v, 1), big(w, c)))), atomOf(less(of(2, p(v, 1), big(w, c)))), atomOf(less(of(-2, p(v, -1), big(w, c)))))
				}
			}
		}
	}
	distinct(t, a, acts)
}

func TestP86DistinctDivisibilities(t *testing.T) {
	a := arena.New(nil)
	var acts []act
	for _, kind := range []int{api.Div, api.Not} {
		for _, d := range []api.Int{n(29), n(291), n(2), above(29, 1), above(1, 29), above(2, 91), above(0, 1), above(0, 0, 1)} {
			for _, k := range []int{0, 1} {
				for _, v := range []int{-91, -9, -1, 0, 1, 9, 19, 91} {
					acts = append(acts, atomOf(api.Atom{Kind: kind, D: d, T: of(k, p(v, 1))}), atomOf(api.Atom{Kind: kind, D: d, T: of(k, p(v, 1), p(92, 1))}))
				}
			}
		}
	}
	distinct(t, a, acts)
}

// What is let go in one order and made in another has other numbers: they hang on the order of making alone.
func TestP86OrderOfMaking(t *testing.T) {
	d := &dice{state: 85}
	for range drawn / 10 {
		var acts []act
		for i := range 30 {
			acts = append(acts, atomOf(v(i)))
		}
		a := arena.New(nil)
		for _, c := range acts {
			c.do(a)
		}
		a.Release(2 + d.roll(3))
		for i := range acts {
			j := d.roll(i + 1)
			acts[i], acts[j] = acts[j], acts[i]
		}
		kept := map[string]int{}
		for of := range a.Len() {
			x, _ := a.Node(of)
			kept[remade(x).String()] = of
		}
		next := a.Len()
		for _, c := range acts {
			want, is := kept[c.String()]
			if !is {
				want = next
				next++
			}
			follow(t, a, line{c, id(want)})
		}
	}
}
