package syntax_test

import (
	"strings"
	"testing"

	"riddle/api"
	"riddle/lex"
	"riddle/syntax"
)

// rows is the table of trees a second time. Of each kind: `f` a formula, `t` a term; N, I, L for a number, a name, a list of
// names; and its kids, `+` being as many more as there are.
func rows() map[int]string {
	return map[int]string{
		api.TreeNum: "t N ", api.TreeVar: "t I ", api.TreeNeg: "t  t", api.TreeAdd: "t  tt", api.TreeSub: "t  tt", api.TreeMul: "t N t",
		api.TreeTrue: "f  ", api.TreeFalse: "f  ",
		api.TreeLt: "f  tt", api.TreeLe: "f  tt", api.TreeEq: "f  tt", api.TreeNe: "f  tt", api.TreeGe: "f  tt", api.TreeGt: "f  tt",
		api.TreeDivides: "f N t", api.TreeNot: "f  f", api.TreeAnd: "f  ff+", api.TreeOr: "f  ff+", api.TreeImplies: "f  ff", api.TreeIff: "f  ff",
		api.TreeSome: "f L f", api.TreeAll: "f L f",
	}
}

// asTable tells whether a tree and all in it are as the table says, but that it lets a divisor be 0.
func asTable(t api.Tree) bool {
	row, ok := rows()[t.Kind]
	if !ok {
		return false
	}
	parts := strings.Split(row, " ")
	kids, more := strings.CutSuffix(parts[2], "+")
	last := len(t.N.Mag) - 1
	switch {
	case t.N.Neg, last >= 0 && t.N.Mag[last] == 0:
		return false
	case parts[1] != "N" && last >= 0, parts[1] != "I" && t.Name != "", parts[1] == "I" && !lex.IsName(t.Name):
		return false
	case (parts[1] == "L") != (len(t.Names) > 0), len(t.Kids) < len(kids), len(t.Kids) > len(kids) && !more:
		return false
	}
	for _, name := range t.Names {
		if !lex.IsName(name) {
			return false
		}
	}
	for _, kid := range t.Kids {
		if !asTable(kid) || rows()[kid.Kind][0] != kids[0] {
			return false
		}
	}
	return true
}

func hasZero(t api.Tree) bool {
	zero := t.Kind == api.TreeDivides && len(t.N.Mag) == 0
	for _, kid := range t.Kids {
		zero = zero || hasZero(kid)
	}
	return zero
}

func checked(t api.Tree) api.Errno {
	switch {
	case !asTable(t), rows()[t.Kind][0] != 'f':
		return api.ErrArg
	case hasZero(t):
		return api.ErrZero
	case depth(t) > mostDeep:
		return api.ErrDepth
	}
	return api.OK
}

// good is a tree of each kind that may be, or, of terms, may be within one.
func good() map[int]api.Tree {
	m := map[int]api.Tree{
		api.TreeNum: num(5), api.TreeVar: v("x"), api.TreeNeg: neg(v("x")), api.TreeAdd: add(v("x"), num(1)), api.TreeSub: sub(v("x"), num(1)),
		api.TreeMul: mul(2, v("x")), api.TreeTrue: yes(), api.TreeFalse: no(), api.TreeDivides: divides(3, v("x")), api.TreeNot: not(yes()),
		api.TreeAnd: and(yes(), no()), api.TreeOr: or(yes(), no()), api.TreeImplies: implies(yes(), no()), api.TreeIff: iff(yes(), no()),
		api.TreeSome: some("x y", below1("x")), api.TreeAll: all("x", below1("x")),
	}
	for _, kind := range compares() {
		m[kind] = of(kind, v("x"), num(1))
	}
	return m
}

// within is a formula that has a tree of some kind in it, if that is of a kind.
func within(t api.Tree) api.Tree {
	if t.Kind < api.TreeTrue {
		return lt(t, num(1))
	}
	return t
}

func TestP41EachKind(t *testing.T) {
	for kind, u := range good() {
		want := api.OK
		if kind < api.TreeTrue {
			want = api.ErrArg
		}
		wantCheck(t, u, want)
		wantCheck(t, within(u), api.OK)
		wantCheck(t, and(yes(), not(within(u))), api.OK)
	}
}

// Each kind with each field that it may not have, or that is not as it should be.
func TestP41Fields(t *testing.T) {
	for kind, u := range good() {
		number, name, names := kind == api.TreeNum || kind == api.TreeMul || kind == api.TreeDivides, kind == api.TreeVar, kind >= api.TreeSome
		for _, k := range []api.Int{{Neg: true}, {Neg: true, Mag: []uint32{5}}, n(0), n(5, 0), {Neg: true, Mag: []uint32{0}}, n(0, 0, 0)} {
			w := u
			w.N = k
			wantCheck(t, within(w), api.ErrArg)
			wantCheck(t, or(no(), within(w)), api.ErrArg)
		}
		w := u
		w.N = n(7, 9)
		wantCheck(t, within(w), map[bool]api.Errno{true: api.OK, false: api.ErrArg}[number])
		w = u
		w.N = api.Int{Mag: []uint32{}}
		wantCheck(t, within(w), map[bool]api.Errno{true: api.ErrZero, false: api.OK}[kind == api.TreeDivides])
		for _, s := range []string{"", "and", "divides", "9", "_a", "a b", " x", "x ", "é", "\x00", strings.Repeat("n", mostName+1)} {
			w = u
			w.Name = s
			wantCheck(t, within(w), map[bool]api.Errno{true: api.ErrArg, false: api.OK}[name || s != ""])
			w = u
			w.Names = []string{"x", s}
			wantCheck(t, within(w), api.ErrArg)
			w.Names = []string{s}
			wantCheck(t, within(w), api.ErrArg)
		}
		w = u
		w.Name = "y_" + strings.Repeat("n", mostName-2)
		wantCheck(t, within(w), map[bool]api.Errno{true: api.OK, false: api.ErrArg}[name])
		w = u
		w.Names = []string{"x", "And", "x"}
		wantCheck(t, within(w), map[bool]api.Errno{true: api.OK, false: api.ErrArg}[names])
		w = u
		w.Names = []string{}
		wantCheck(t, within(w), map[bool]api.Errno{true: api.ErrArg, false: api.OK}[names])
	}
}

// Each kind with each number of kids up to 4, all terms, all formulas, or one of them of the other sort.
func TestP41Kids(t *testing.T) {
	for _, u := range good() {
		for count := range 5 {
			for _, main := range []api.Tree{num(1), yes()} {
				for other := range count + 1 {
					w := u
					w.Kids = nil
					for range count {
						w.Kids = append(w.Kids, main)
					}
					if other < count {
						w.Kids[other] = map[int]api.Tree{api.TreeNum: no(), api.TreeTrue: v("z")}[main.Kind]
					}
					wantCheck(t, w, checked(w))
					wantCheck(t, within(w), checked(within(w)))
				}
			}
		}
	}
	wantCheck(t, and(yes()), api.ErrArg)
	wantCheck(t, or(), api.ErrArg)
	wantCheck(t, of(api.TreeAnd, make([]api.Tree, 3)...), api.ErrArg)
	wantCheck(t, implies(yes(), api.Tree{Kind: api.TreeIff, Kids: []api.Tree{yes(), no(), yes()}}), api.ErrArg)
	many := and(yes(), no())
	for range 5000 {
		many.Kids = append(many.Kids, below1("x"))
	}
	if e := syntax.Check(many); e != api.OK {
		t.Error("many kids", e)
	}
	many.Kids[4321].Kids[0].Name = "not"
	if e := syntax.Check(many); e != api.ErrArg {
		t.Error("many kids, one of them wrong", e)
	}
	wantCheck(t, api.Tree{Kind: api.TreeTrue, Kids: []api.Tree{}, Names: []string{}}, api.OK)
}

func TestP41UnknownKinds(t *testing.T) {
	for _, kind := range []int{0, -1, api.TreeAll + 1, 99, -1 << 63, 1<<63 - 1, 1 << 32} {
		for _, u := range good() {
			w := u
			w.Kind = kind
			wantCheck(t, w, api.ErrArg)
			wantCheck(t, not(w), api.ErrArg)
			wantCheck(t, lt(num(1), w), api.ErrArg)
		}
	}
	wantCheck(t, api.Tree{}, api.ErrArg)
}

func TestP41Zero(t *testing.T) {
	zero := divides(0, num())
	wantCheck(t, zero, api.ErrZero)
	wantCheck(t, and(yes(), not(some("x", zero))), api.ErrZero)
	wantCheck(t, divides(0, v("and")), api.ErrArg)
	wantCheck(t, divides(1, num()), api.OK)
	wantCheck(t, lt(mul(0, v("x")), num()), api.OK)
	wantCheck(t, lt(num(1), zero), api.ErrArg)
}

// The errors are asked in their order, wherever what is wrong stands.
func TestP41Order(t *testing.T) {
	zero, wrong := divides(0, v("x")), below1("")
	deep := over(mostDeep, yes(), not)
	wantCheck(t, and(zero, wrong), api.ErrArg)
	wantCheck(t, and(wrong, zero), api.ErrArg)
	wantCheck(t, and(deep, zero), api.ErrZero)
	wantCheck(t, and(zero, deep), api.ErrZero)
	wantCheck(t, and(deep, zero, wrong), api.ErrArg)
	wantCheck(t, over(80, zero, not), api.ErrZero)
	wantCheck(t, over(80, and(zero, wrong), not), api.ErrArg)
	wantCheck(t, over(80, wrong, not), api.ErrArg)
	wantCheck(t, over(80, num(1), neg), api.ErrArg)
	wantCheck(t, api.Tree{Kind: api.TreeDivides, N: n(0), Kids: []api.Tree{num(1)}}, api.ErrArg)
	wantCheck(t, api.Tree{Kind: api.TreeDivides, N: api.Int{Neg: true}, Kids: []api.Tree{num(1)}}, api.ErrArg)
	wantCheck(t, api.Tree{Kind: api.TreeDivides}, api.ErrArg)
}

func TestP41Depth(t *testing.T) {
	for _, put := range []func(api.Tree) api.Tree{
		not,
		func(f api.Tree) api.Tree { return and(yes(), f, no()) },
		func(f api.Tree) api.Tree { return or(f, yes()) },
		func(f api.Tree) api.Tree { return implies(yes(), f) },
		func(f api.Tree) api.Tree { return iff(f, yes()) },
		func(f api.Tree) api.Tree { return some("x", f) },
		func(f api.Tree) api.Tree { return all("x y", f) },
	} {
		wantCheck(t, over(mostDeep-1, yes(), put), api.OK)
		wantCheck(t, over(mostDeep, yes(), put), api.ErrDepth)
		wantCheck(t, over(mostDeep+1, yes(), put), api.ErrDepth)
		wantCheck(t, over(mostDeep-2, below1("x"), put), api.OK)
		wantCheck(t, over(mostDeep-1, below1("x"), put), api.ErrDepth)
	}
	for _, put := range []func(api.Tree) api.Tree{
		neg,
		func(u api.Tree) api.Tree { return mul(2, u) },
		func(u api.Tree) api.Tree { return add(u, num(1)) },
		func(u api.Tree) api.Tree { return sub(num(1), u) },
	} {
		wantCheck(t, lt(num(1), over(mostDeep-2, num(1), put)), api.OK)
		wantCheck(t, lt(over(mostDeep-1, num(1), put), num(1)), api.ErrDepth)
		wantCheck(t, not(divides(1, over(mostDeep-3, num(1), put))), api.OK)
		wantCheck(t, not(divides(1, over(mostDeep-2, num(1), put))), api.ErrDepth)
	}
}

func TestP41AnyTree(t *testing.T) {
	d := &dice{state: 5}
	seen := map[api.Errno]int{}
	for range 20000 {
		for _, u := range []api.Tree{d.wild(4), d.spoilt(d.formula(1 + d.below(5))), d.formula(1 + d.below(5))} {
			want := checked(u)
			seen[want]++
			wantCheck(t, u, want)
		}
	}
	if seen[api.OK] < 1000 || seen[api.ErrArg] < 1000 || seen[api.ErrZero] < 10 {
		t.Error("too few of some sort", seen)
	}
}
