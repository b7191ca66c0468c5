package raise_test

import (
	"math"
	"slices"
	"strconv"
	"strings"
	"testing"

	"riddle/api"
	"riddle/raise"
	"riddle/syntax"
)

// bars is a name with so many bars behind it.
func bars(name string, many int) string { return name + strings.Repeat("_", many) }

// taken are the names of a bound variable with no bar, with one .. up to so many.
func taken(name string, upTo int) []string {
	var names []string
	for many := range upTo + 1 {
		names = append(names, bars(name, many))
	}
	return names
}

// The chapter's examples.
func TestToExamples(t *testing.T) {
	m := newMaker(t)
	id := m.some(7, m.atom(less(api.Term{Parts: []api.Part{{Var: 0, C: small(1)}, {Var: 7, C: small(-1)}}})))
	m.wantText(id, "x y", "some v7 . v7 < x")
	m.wantText(id, "v7 y", "some v7_ . v7_ < v7")
}

func TestP113EachKind(t *testing.T) {
	m := newMaker(t)
	x, y, even, odd := m.less(0, 1), m.less(1, -1, 1), m.atom(div(2, linear(0, 1))), m.atom(not(2, linear(0, 1)))
	isX, isY, isEven := lt(num(0), v("x")), lt(v("x"), add(v("y"), num(1))), divides(n(2), v("x"))
	isOdd := of(api.TreeNot, isEven)
	m.want(0, "x y", of(api.TreeFalse))
	m.want(1, "x y", of(api.TreeTrue))
	m.want(x, "x y", isX)
	m.want(y, "x y", isY)
	m.want(even, "x y", isEven)
	m.want(odd, "x y", isOdd)
	// Kids stand in the order in which the node has them, however it was made; no tree is made of others than these.
	m.want(m.and(y, x), "x y", of(api.TreeAnd, isX, isY))
	m.want(m.or(odd, y, x, even), "x y", of(api.TreeOr, isX, isY, isEven, isOdd))
	m.want(m.and(1, x, 0), "x y", of(api.TreeAnd, of(api.TreeFalse), of(api.TreeTrue), isX))
	and, or := m.and(x, y), m.or(x, y)
	m.want(m.or(and, odd), "x y", of(api.TreeOr, isOdd, of(api.TreeAnd, isX, isY)))
	m.want(m.and(or, odd, m.and(x, even)), "x y", of(api.TreeAnd, isOdd, of(api.TreeOr, isX, isY), of(api.TreeAnd, isX, isEven)))
	m.want(m.and(and, even), "x y", of(api.TreeAnd, isEven, of(api.TreeAnd, isX, isY)))
	// Quantifiers have one name each.
	m.want(m.some(5, x), "x y", quantified(api.TreeSome, "v5", isX))
	m.want(m.all(5, x), "x y", quantified(api.TreeAll, "v5", isX))
	m.want(m.some(5, m.some(6, x)), "x y", quantified(api.TreeSome, "v5", quantified(api.TreeSome, "v6", isX)))
	m.want(m.all(6, m.some(5, and)), "x y", quantified(api.TreeAll, "v6", quantified(api.TreeSome, "v5", of(api.TreeAnd, isX, isY))))
	m.want(m.some(1, y), "x", quantified(api.TreeSome, "v1", lt(v("x"), add(v("v1"), num(1)))))
	m.want(m.or(m.some(0, odd), m.all(0, even)), "", of(api.TreeOr, quantified(api.TreeSome, "v0", of(api.TreeNot, divides(n(2), v("v0")))), quantified(api.TreeAll, "v0", divides(n(2), v("v0")))))
	m.want(m.some(3, 1), "", quantified(api.TreeSome, "v3", of(api.TreeTrue)))
}

// One node hangs below quantifiers that bind its variables, and beside them: it is told by other names at each place.
func TestP113FreeAndBound(t *testing.T) {
	m := newMaker(t)
	f := m.less(0, 1, -1)
	some0, all1 := m.some(0, f), m.all(1, f)
	m.wantText(m.and(f, some0, all1), "x y", "y < x and (some v0 . y < v0) and all v1 . v1 < x")
	m.wantText(m.or(m.some(0, all1), m.all(1, some0)), "", "(some v0 . all v1 . v1 < v0) or all v1 . some v0 . v1 < v0")
	m.wantText(m.some(0, m.and(f, all1)), "x y", "some v0 . y < v0 and all v1 . v1 < v0")
	// What a quantifier binds again is bound still behind the inner one, and free again behind the outer one.
	low := m.less(0, 1)
	again := m.some(0, m.and(m.all(0, low), m.or(low, m.some(0, m.less(1, 1)))))
	m.wantText(again, "", "some v0 . (all v0 . 0 < v0) and (0 < v0 or some v0 . 0 < v0 + 1)")
	late := m.less(2, 1)
	m.wantText(m.and(again, late), "x", "(some v0 . (all v0 . 0 < v0) and (0 < v0 or some v0 . 0 < v0 + 1)) and 0 < x + 2")
	inner := m.all(0, low)
	m.wantText(m.some(0, m.and(inner, m.less(3, 1))), "x", "some v0 . (all v0 . 0 < v0) and 0 < v0 + 3")
	after := m.less(4, 1, 1)
	m.wantText(m.and(m.some(0, m.some(0, low)), after), "x y", "0 < x + y + 4 and some v0 . some v0 . 0 < v0")
}

func TestP113BoundNames(t *testing.T) {
	m := newMaker(t)
	for _, l := range []struct {
		v           int
		names, want string
	}{
		{0, "", "v0"}, {7, "", "v7"}, {10, "x", "v10"}, {123456, "x y", "v123456"}, {-1, "", "w1"}, {-10, "x", "w10"}, {-987, "w98 v987 w9870", "w987"}, {math.MaxInt, "", "v9223372036854775807"}, {math.MinInt, "", "w9223372036854775808"},
		// A bar for each that is taken already, as long as one is.
		{7, "v7", "v7_"}, {7, "x v7_", "v7"}, {7, "v7_ v7", "v7__"}, {7, "v7 v7__", "v7_"}, {7, "v7__ v7_ v7", "v7___"}, {7, "V7 v70 v07 w7 v", "v7"}, {-7, "v7", "w7"}, {-7, "w7 w7_", "w7__"}, {-7, "w7", "w7_"}, {math.MinInt, "w9223372036854775808", "w9223372036854775808_"},
		// Names count, whatever they are used for.
		{0, "v0 x", "v0_"}, {0, "x v0", "v0_"}, {1, "v1 v0", "v1_"},
	} {
		names := strings.Fields(l.names)
		got, e := raise.To(m.a, m.some(l.v, 1), names)
		if e != api.OK || tellTree(got) != tellTree(quantified(api.TreeSome, l.want, of(api.TreeTrue))) {
			t.Errorf("some v%d, names %q: %s, %v, want %s", l.v, names, tellTree(got), e, l.want)
		}
		m.want(m.all(l.v, m.atom(less(of1(l.v)))), l.names, quantified(api.TreeAll, l.want, lt(num(0), v(l.want))))
	}
	// Of several that are bound each has its own.
	f := m.atom(less(api.Term{Parts: []api.Part{{Var: -1, C: small(-1)}, {Var: 0, C: small(1)}, {Var: 1, C: small(-1)}, {Var: 10, C: small(1)}}}))
	m.wantText(m.some(-1, m.all(1, m.some(10, f))), "w1", "some w1_ . all v1 . some v10 . w1_ + v1 < w1 + v10")
	m.wantText(m.some(-1, m.all(1, m.some(10, f))), "v1 v1_ v10", "some w1 . all v1__ . some v10_ . w1 + v1__ < v1 + v10_")
}

// A bound name has at most MaxName bytes; one more is ErrFree, also where the variable stands nowhere.
func TestP113LongBoundNames(t *testing.T) {
	m := newMaker(t)
	for _, l := range []struct {
		v    int
		name string
	}{{7, "v7"}, {-7, "w7"}, {123, "v123"}, {-4567, "w4567"}, {math.MaxInt, "v9223372036854775807"}, {math.MinInt, "w9223372036854775808"}} {
		room := api.MaxName - len(l.name)
		used, unused := m.some(l.v, m.atom(less(of1(l.v)))), m.all(l.v, 1)
		names := taken(l.name, room-1)
		want := bars(l.name, room)
		m.want(used, strings.Join(names, " "), quantified(api.TreeSome, want, lt(num(0), v(want))))
		m.want(unused, strings.Join(names, " "), quantified(api.TreeAll, want, of(api.TreeTrue)))
		full := taken(l.name, room)
		deep := m.and(m.or(unused, 0), 1)
		for _, id := range []int{used, unused, deep, m.some(5, deep), m.all(l.v, used)} {
			m.wantNone(id, full, api.ErrFree)
			m.wantNone(id, append([]string{"x", "y"}, full...), api.ErrFree)
		}
		// Others are called as ever; and one name less than all is enough.
		m.wantText(m.some(5, m.atom(less(of1(5)))), strings.Join(full, " "), "some v5 . 0 < v5")
		m.want(used, strings.Join(slices.Delete(full, 1, 2), " "), quantified(api.TreeSome, bars(l.name, 1), lt(num(0), v(bars(l.name, 1)))))
	}
}

// Errors in their order: ErrArg, ErrNode, ErrFree, ErrStore.
func TestP113Refused(t *testing.T) {
	m := newMaker(t)
	x, z := m.less(0, 1), m.atom(less(of1(2)))
	long := taken("v7", 22)
	bound := m.some(7, 1)
	great := m.doubled(z, 12)
	for _, id := range []int{0, 1, x, z, bound, great, -1, m.a.Len(), math.MinInt, math.MaxInt} {
		for _, names := range append(badNames(), nil, []string{"x", "y", "z"}) {
			if got, e := raise.To(nil, id, names); e != api.ErrArg || !isZero(got) {
				t.Errorf("To(nil, %d, %q): %s, %v", id, names, tellTree(got), e)
			}
		}
		for _, names := range badNames() {
			m.wantNone(id, names, api.ErrArg)
		}
	}
	for _, id := range []int{-1, m.a.Len(), m.a.Len() + 7, math.MinInt, math.MaxInt} {
		m.wantNone(id, nil, api.ErrNode)
		m.wantNone(id, []string{"x"}, api.ErrNode)
		m.wantNone(id, long, api.ErrNode)
	}
	for _, id := range []int{z, great, m.and(x, z), m.some(0, m.and(x, z)), m.or(m.some(2, z), z), m.atom(less(of1(-1))), m.atom(not(2, of1(math.MinInt))), m.atom(div(2, of1(math.MaxInt))), m.and(1, m.all(4, m.or(0, z)))} {
		m.wantNone(id, nil, api.ErrFree)
		m.wantNone(id, []string{"x", "y"}, api.ErrFree)
	}
	m.wantNone(m.some(7, great), long, api.ErrFree)
	m.wantNone(great, []string{"x", "y", "z"}, api.ErrStore)
	m.wantNone(m.some(7, great), []string{"x", "y", "z"}, api.ErrStore)
	// What is bound needs no name, and what isn't reached doesn't count.
	m.wantText(m.some(2, z), "", "some v2 . 0 < v2")
	m.wantText(m.all(-1, m.atom(less(of1(-1)))), "", "all w1 . 0 < w1")
	m.wantText(x, strings.Join(long, " "), "0 < v7")
	m.wantText(x, "x", "0 < x")
	// A node that was let go is none.
	was := m.a.Len()
	last := m.or(x, z, bound)
	if e := m.a.Release(was); e != api.OK {
		t.Fatal(e)
	}
	m.wantNone(last, []string{"x", "y", "z"}, api.ErrNode)
}

// doubled is a node that hangs at twice as many places at each step: its size is twice what it was, and 2 more.
func (m maker) doubled(id, times int) int {
	m.Helper()
	for i := range times {
		id = m.and(id, m.some(1000+i, id))
	}
	return id
}

// wantSize fails unless a node's tree has just so many trees.
func (m maker) wantSize(id int, names []string, want int) {
	m.Helper()
	u, e := raise.To(m.a, id, names)
	if e != api.OK || syntax.Size(u) != want {
		m.Fatalf("To(%d): %v, of the size %d, want %d", id, e, syntax.Size(u), want)
	}
}

// A node that hangs at several places counts at each of them.
func TestP113StoreOfSharedNodes(t *testing.T) {
	xyz := []string{"x", "y", "z"}
	for _, l := range []struct {
		x    api.Atom
		size int
	}{{api.Atom{Kind: api.True}, 1}, {less(linear(0, 1)), 3}, {less(linear(5, -2, 3, 1)), 9}, {not(5, linear(1, 1, 2)), 8}} {
		m := newMaker(t)
		id, size := m.atom(l.x), l.size
		for i := 0; 2*size+2 <= api.MaxStore; i++ {
			m.wantSize(id, xyz, size)
			id, size = m.and(id, m.some(1000+i, id)), 2*size+2
		}
		m.wantNone(m.and(id, m.all(1000, id)), xyz, api.ErrStore)
		for ; size < api.MaxStore; size++ {
			if size%50 == 49 {
				m.wantSize(id, xyz, size)
			}
			id = m.all(9, id)
		}
		m.wantSize(id, xyz, api.MaxStore)
		m.wantNone(m.all(9, id), xyz, api.ErrStore)
		m.wantNone(m.some(9, id), xyz, api.ErrStore)
		m.wantNone(m.or(id, 0), xyz, api.ErrStore)
	}
}

// sum is a term of so many variables, the first ones of which have the coefficient c.
func sum(many, first, c int) api.Term {
	t := api.Term{}
	for v := range many {
		k := 1
		if v < first {
			k = c
		}
		t.Parts = append(t.Parts, api.Part{Var: v, C: small(k)})
	}
	return t
}

// manyNames are so many that may be.
func manyNames(many int) []string {
	var names []string
	for i := range many {
		names = append(names, "x"+strconv.Itoa(i))
	}
	return names
}

// An atom alone may be as great as that.
func TestP113StoreOfAtoms(t *testing.T) {
	m := newMaker(t)
	names := manyNames(1600)
	for _, l := range []struct {
		what string
		x    api.Atom
		size int
	}{
		{"less", less(sum(1499, 0, 0)), 2999}, {"less, one twice", less(sum(1499, 1, 2)), 3000}, {"less, two twice", less(sum(1499, 2, 2)), 3001}, {"less, one below 0", less(sum(1499, 1, -1)), 2997}, {"less of more", less(sum(1500, 0, 0)), 3001}, {"div", div(7, sum(1500, 0, 0)), 3000}, {"div, one twice", div(7, sum(1500, 1, 2)), 3001}, {"not", not(7, sum(1499, 0, 0)), 2999}, {"not, one more", not(7, sum(1500, 0, 0)), 3001},
		{"less, two below 0", less(sum(1500, 2, -1)), 2999}, {"less, three below 0 twice", less(sum(1499, 3, -2)), 3000}, {"less, four below 0 twice", less(sum(1499, 4, -2)), 3001},
	} {
		id := m.atom(l.x)
		if l.size > api.MaxStore {
			m.wantNone(id, names, api.ErrStore)
		} else {
			m.wantSize(id, names, l.size)
		}
		// Atom itself bounds nothing.
		if u, e := raise.Atom(l.x, names); e != api.OK || syntax.Size(u) != l.size {
			t.Errorf("Atom of %s: %v, of the size %d, want %d", l.what, e, syntax.Size(u), l.size)
		}
	}
	constant := sum(1498, 0, 0)
	constant.K = small(5)
	m.wantSize(m.atom(less(constant)), names, 2999)
	constant.Parts[0].C = small(3)
	m.wantSize(m.atom(less(constant)), names, 3000)
	constant.Parts[1].C = small(3)
	m.wantNone(m.atom(less(constant)), names, api.ErrStore)
	half, other := m.atom(div(7, sum(750, 0, 0))), m.atom(div(7, sum(749, 0, 0)))
	m.wantSize(m.and(half, other), names, 2999)
	m.wantSize(m.some(5000, m.and(half, other)), names, 3000)
	m.wantNone(m.or(half, m.atom(div(5, sum(750, 0, 0)))), names, api.ErrStore)
}

// Many kids: as many as there may be nodes.
func TestP113StoreOfManyKids(t *testing.T) {
	m := newMaker(t)
	var kids []int
	for k := range 750 {
		kids = append(kids, m.less(-k, 1))
	}
	// 0 < x and x's bounds: 3 each, and the And.
	m.wantSize(m.and(kids[:749]...), []string{"x"}, 1+3*749)
	m.wantSize(m.or(kids...), []string{"x"}, 1+3*750)
	bits := append(kids[:0:0], kids[:600]...)
	for k := range 599 {
		bits = append(bits, m.some(k, 1))
	}
	m.wantSize(m.and(bits...), []string{"x"}, 1+3*600+2*599)
	m.wantSize(m.all(2, m.and(bits...)), []string{"x"}, 3000)
	m.wantNone(m.some(2, m.all(2, m.and(bits...))), []string{"x"}, api.ErrStore)
	m.wantNone(m.or(append(bits, 0, 1)...), []string{"x"}, api.ErrStore)
}
