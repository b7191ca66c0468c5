package raise_test

import (
	"slices"
	"strconv"
	"strings"
	"testing"

	"riddle/api"
	"riddle/arena"
	"riddle/atom"
	"riddle/raise"
	"riddle/syntax"
	"riddle/term"
	"riddle/zint"
)

// The slow calls write what the chapter says as a text, which a text's reader makes the tree of.

// words are what a slow text calls variables: those that are bound, and the names.
type words struct {
	names []string
	bound []int
}

func (w words) name(v int) string {
	if slices.Contains(w.bound, v) {
		return w.boundName(v)
	}
	return w.names[v]
}

func (w words) boundName(v int) string {
	name := strings.ReplaceAll("v"+strconv.Itoa(v), "v-", "w")
	for slices.Contains(w.names, name) {
		name += "_"
	}
	return name
}

// piece is a number beside a name; of the number alone, if there is none.
func piece(k api.Int, name string) string {
	text := strings.TrimPrefix(zint.Text(k), "-")
	switch {
	case name == "":
		return text
	case text == "1":
		return name
	}
	return text + " * " + name
}

func (w words) term(t api.Term) string {
	text := ""
	put := func(k api.Int, name string) {
		sign := map[bool]string{false: " + ", true: " - "}[k.Neg]
		if text == "" {
			sign = strings.ReplaceAll(strings.ReplaceAll(sign, " + ", ""), " ", "")
		}
		text += sign + piece(k, name)
	}
	for _, p := range t.Parts {
		put(p.C, w.name(p.Var))
	}
	if text == "" || len(t.K.Mag) > 0 {
		put(t.K, "")
	}
	return text
}

// side are the parts and the constant of one sign, with that sign turned away.
func side(t api.Term, neg bool) api.Term {
	u := api.Term{}
	for _, p := range t.Parts {
		if p.C.Neg == neg {
			u.Parts = append(u.Parts, api.Part{Var: p.Var, C: api.Int{Mag: p.C.Mag}})
		}
	}
	if t.K.Neg == neg {
		u.K = api.Int{Mag: t.K.Mag}
	}
	return u
}

func (w words) atom(x api.Atom) string {
	switch x.Kind {
	case api.False:
		return "false"
	case api.True:
		return "true"
	case api.Less:
		return w.term(side(x.T, true)) + " < " + w.term(side(x.T, false))
	case api.Not:
		return "not " + zint.Text(x.D) + " divides " + w.term(x.T)
	}
	return zint.Text(x.D) + " divides " + w.term(x.T)
}

// node is a node's text; it is cut where it is longer than any that may be read.
func (w words) node(a *arena.Arena, id int) string {
	node, _ := a.Node(id)
	if node.Kind < api.And {
		return w.atom(api.Atom{Kind: node.Kind, D: node.D, T: node.T})
	}
	if node.Kind == api.Some || node.Kind == api.All {
		inner := words{w.names, append(slices.Clone(w.bound), node.Var)}
		return map[int]string{api.Some: "some ", api.All: "all "}[node.Kind] + w.boundName(node.Var) + " . (" + inner.node(a, node.Kids[0]) + ")"
	}
	text := ""
	for i, kid := range node.Kids {
		if i > 0 {
			text += map[int]string{api.And: " and ", api.Or: " or "}[node.Kind]
		}
		text += "(" + w.node(a, kid) + ")"
		if len(text) > api.MaxText {
			return text
		}
	}
	return text
}

// slowFree are the variables to which a way leads down that no quantifier bars, looked for one by one.
func slowFree(a *arena.Arena, id int) []int {
	var free []int
	for _, n := range a.Reach(id) {
		node, _ := a.Node(n)
		for _, p := range node.T.Parts {
			if !slices.Contains(free, p.Var) && leads(a, id, p.Var, map[int]bool{}) {
				free = append(free, p.Var)
			}
		}
	}
	return free
}

func leads(a *arena.Arena, id, v int, been map[int]bool) bool {
	node, _ := a.Node(id)
	if been[id] || node.Kind >= api.Some && node.Var == v {
		return false
	}
	been[id] = true
	return slices.ContainsFunc(node.T.Parts, func(p api.Part) bool { return p.Var == v }) || slices.ContainsFunc(node.Kids, func(kid int) bool { return leads(a, kid, v, been) })
}

// slowBound are the variables that some quantifier of a node binds.
func slowBound(a *arena.Arena, id int) []int {
	var bound []int
	for _, n := range a.Reach(id) {
		if node, _ := a.Node(n); node.Kind == api.Some || node.Kind == api.All {
			bound = append(bound, node.Var)
		}
	}
	return bound
}

// slowSize is how many trees a node's tree has, at each place where it hangs.
func slowSize(a *arena.Arena, id int) int {
	sizes := map[int]int{}
	for _, n := range a.Reach(id) {
		node, _ := a.Node(n)
		size := 1
		for _, kid := range node.Kids {
			size += sizes[kid]
		}
		pieces := func(t api.Term) int {
			many := 0
			for _, p := range t.Parts {
				many += 1 + min(len(p.C.Mag), 1)
				if len(p.C.Mag) == 1 && p.C.Mag[0] == 1 {
					many--
				}
				many++
			}
			if len(t.Parts) == 0 || len(t.K.Mag) > 0 {
				many += 2
			}
			return many - 1
		}
		switch node.Kind {
		case api.Less:
			size += pieces(side(node.T, true)) + pieces(side(node.T, false))
		case api.Div:
			size += pieces(node.T)
		case api.Not:
			size += 1 + pieces(node.T)
		}
		sizes[n] = min(size, api.MaxStore+1)
	}
	return sizes[id]
}

func lacking(vars []int, names []string) bool {
	return slices.ContainsFunc(vars, func(v int) bool { return v < 0 || v >= len(names) })
}

// slowTo is the error of a node's tree, and its text, where there is none.
func slowTo(a *arena.Arena, id int, names []string) (string, api.Errno) {
	w := words{names: names}
	tooLong := func(v int) bool { return len(w.boundName(v)) > api.MaxName }
	switch {
	case id < 0 || id >= a.Len():
		return "", api.ErrNode
	case lacking(slowFree(a, id), names), slices.ContainsFunc(slowBound(a, id), tooLong):
		return "", api.ErrFree
	case slowSize(a, id) > api.MaxStore:
		return "", api.ErrStore
	}
	return w.node(a, id), api.OK
}

// Terms and atoms that are drawn have the trees that the slow calls say.
func TestP111P112Drawn(t *testing.T) {
	d := &dice{state: 201}
	seen := map[api.Errno]int{}
	for range drawn {
		names := d.names(d.roll(6))
		w := words{names: names}
		x := d.term(3, d.roll(2)-1, 1+d.roll(5))
		got, e := raise.Term(x, names)
		if form := term.Norm(x); lacking(term.Vars(form), names) {
			if e != api.ErrFree || !isZero(got) {
				t.Fatalf("Term(%s, %q): %s, %v", tellTerm(x), names, tellTree(got), e)
			}
		} else if want := termOf(t, w.term(form)); e != api.OK || tellTree(got) != tellTree(want) {
			t.Fatalf("Term(%s, %q): %s, %v, want %s", tellTerm(x), names, tellTree(got), e, w.term(form))
		}
		seen[e]++
		y := d.atom(3, d.roll(2)-1, 1+d.roll(5))
		got, e = raise.Atom(y, names)
		if form, _ := atom.Norm(y); lacking(term.Vars(form.T), names) {
			if e != api.ErrFree || !isZero(got) {
				t.Fatalf("Atom(%s, %q): %s, %v", tellAtom(y), names, tellTree(got), e)
			}
		} else if want := read(t, w.atom(form)); e != api.OK || tellTree(got) != tellTree(want) {
			t.Fatalf("Atom(%s, %q): %s, %v, want %s", tellAtom(y), names, tellTree(got), e, w.atom(form))
		}
		seen[e]++
	}
	if min(seen[api.OK], seen[api.ErrFree]) < drawn/5 {
		t.Errorf("answered %v", seen)
	}
}

// Nodes that are drawn likewise.
func TestP113Drawn(t *testing.T) {
	d := &dice{state: 202}
	seen, held := map[api.Errno]int{}, 0
	for range drawn / 20 {
		a, ids := d.grown(t, 10+d.roll(250), -d.roll(2), 1+d.roll(4), false)
		was := tellArena(a)
		for _, id := range append(ids, -1, len(ids)) {
			names := d.names(d.roll(9))
			if d.roll(15) == 0 {
				names = append(names, taken("v2", 22)...)
			}
			got, e := raise.To(a, id, names)
			text, wantE := slowTo(a, id, names)
			if e != wantE || e != api.OK && !isZero(got) {
				t.Fatalf("To(%d, %q): %s, %v, want %v\n%s", id, names, short(tellTree(got)), e, wantE, short(was))
			}
			seen[e]++
			if e != api.OK || syntax.Size(got) == slowSize(a, id) && (len(text) > api.MaxText || syntax.Check(got) == api.ErrDepth) {
				continue
			}
			if want := read(t, text); tellTree(got) != tellTree(want) || syntax.Size(got) != slowSize(a, id) {
				t.Fatalf("To(%d, %q): %s, want %s", id, names, short(tellTree(got)), short(text))
			}
			held++
		}
		if tellArena(a) != was {
			t.Fatalf("the arena was changed: %s, was %s", short(tellArena(a)), short(was))
		}
	}
	if min(seen[api.OK], seen[api.ErrFree], 10*seen[api.ErrStore], seen[api.ErrNode], held) < drawn/20 {
		t.Errorf("answered %v, held against texts %d", seen, held)
	}
}
