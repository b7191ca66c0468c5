package simp_test

import (
	"math"
	"slices"
	"strconv"
	"strings"
	"testing"

	"riddle/api"
	"riddle/arena"
	"riddle/atom"
	"riddle/meter"
	"riddle/simp"
	"riddle/zint"
)

const (
	top   = 1<<32 - 1
	least = math.MinInt
	most  = math.MaxInt
	// drawn is how many arenas a test draws.
	drawn = 1500
)

// Numbers, terms and atoms are made here by short calls.

// n is a small number, made without the layers below.
func n(k int) api.Int {
	switch {
	case k == 0:
		return api.Int{}
	case k < 0:
		return api.Int{Neg: true, Mag: []uint32{uint32(-k)}}
	}
	return api.Int{Mag: []uint32{uint32(k)}}
}

// wide is a number of just so many limbs, as small as such a one can be.
func wide(limbs int) api.Int { return api.Int{Mag: append(make([]uint32, limbs-1), 1)} }

// widest is the greatest number of just so many limbs.
func widest(limbs int) api.Int { return api.Int{Mag: slices.Repeat([]uint32{top}, limbs)} }

func opposite(a api.Int) api.Int { return api.Int{Neg: len(a.Mag) > 0 && !a.Neg, Mag: a.Mag} }

func p(v, c int) api.Part { return api.Part{Var: v, C: n(c)} }

func big(v int, c api.Int) api.Part { return api.Part{Var: v, C: c} }

// A form is a formula that is yet to be laid in an arena, node by node, none of them made simpler.
type form func(a *arena.Arena) int

func atomOf(x api.Atom) form {
	return func(a *arena.Arena) int { return laid(a.Atom(x)) }
}

// laid fails where a test has made a formula that can't be.
func laid(id int, e api.Errno) int {
	if e != api.OK {
		panic(e)
	}
	return id
}

func never() form { return func(*arena.Arena) int { return 0 } }

func always() form { return func(*arena.Arena) int { return 1 } }

func less(k int, parts ...api.Part) form { return bigLess(n(k), parts...) }

func bigLess(k api.Int, parts ...api.Part) form {
	return atomOf(api.Atom{Kind: api.Less, T: api.Term{Parts: parts, K: k}})
}

func div(d, k int, parts ...api.Part) form {
	return atomOf(api.Atom{Kind: api.Div, D: n(d), T: api.Term{Parts: parts, K: n(k)}})
}

func not(d, k int, parts ...api.Part) form {
	return atomOf(api.Atom{Kind: api.Not, D: n(d), T: api.Term{Parts: parts, K: n(k)}})
}

// x and y are shorter ways to say 0 < c v + k, of the variables 0 and 1.

func x(c, k int) form { return less(k, p(0, c)) }

func y(c, k int) form { return less(k, p(1, c)) }

func joined(kind int, kids []form) form {
	return func(a *arena.Arena) int { return laid(a.Join(kind, layAll(a, kids)...)) }
}

func and(kids ...form) form { return joined(api.And, kids) }

func or(kids ...form) form { return joined(api.Or, kids) }

func some(v int, kid form) form {
	return func(a *arena.Arena) int { return laid(a.Bind(api.Some, v, kid(a))) }
}

func all(v int, kid form) form {
	return func(a *arena.Arena) int { return laid(a.Bind(api.All, v, kid(a))) }
}

func layAll(a *arena.Arena, forms []form) []int {
	var ids []int
	for _, f := range forms {
		ids = append(ids, f(a))
	}
	return ids
}

// The tellers tell all fields as they stand, limb by limb, so that what differs in anything is told otherwise.

func tellInt(a api.Int) string {
	var b strings.Builder
	if a.Neg {
		b.WriteString("-")
	}
	for _, limb := range a.Mag {
		b.WriteString("'" + strconv.FormatUint(uint64(limb), 10))
	}
	return b.String()
}

func tellParts(parts []api.Part) string {
	var b strings.Builder
	for _, q := range parts {
		b.WriteString(tellInt(q.C) + " v" + strconv.Itoa(q.Var) + " + ")
	}
	return b.String()
}

func tellTerm(t api.Term) string { return tellParts(t.Parts) + tellInt(t.K) }

func tellList(l []int) string {
	var texts []string
	for _, id := range l {
		texts = append(texts, strconv.Itoa(id))
	}
	return "(" + strings.Join(texts, ", ") + ")"
}

func tellNode(x api.Node) string {
	return "[kind " + strconv.Itoa(x.Kind) + ", " + tellInt(x.D) + ", " + tellTerm(x.T) + ", v" + strconv.Itoa(x.Var) + ", " + tellList(x.Kids) + "]"
}

// tellArena tells all nodes in the order in which they were made, and the meter.
func tellArena(a *arena.Arena) string {
	var b strings.Builder
	for id := range a.Len() {
		node, _ := a.Node(id)
		b.WriteString(strconv.Itoa(id) + " " + tellNode(node) + "\n")
	}
	return b.String() + strconv.Itoa(a.Meter().Spent()) + " " + a.Meter().Over().Error()
}

// short cuts what would fill pages.
func short(text string) string {
	if len(text) > 3000 {
		return text[:3000] + ".."
	}
	return text
}

func meterOf(t *testing.T, nodes, limbs int) *meter.Meter {
	t.Helper()
	m, e := meter.New(nodes, limbs)
	if m == nil || e != api.OK {
		t.Fatalf("meter.New(%d, %d): %v", nodes, limbs, e)
	}
	return m
}

// A call is one of the four, with what it is given; Negate and Again take the first number alone.
type call struct {
	name string
	ids  []int
}

func (c call) String() string { return c.name + tellList(c.ids) }

func (c call) do(a *arena.Arena) (int, api.Errno) {
	switch c.name {
	case "And":
		return simp.And(a, c.ids...)
	case "Or":
		return simp.Or(a, c.ids...)
	case "Negate":
		return simp.Negate(a, c.ids[0])
	}
	return simp.Again(a, c.ids[0])
}

func names() []string { return []string{"And", "Or", "Negate", "Again"} }

// The slow calls do what the chapter says, word by word; tests hold the four against them.

func (c call) slow(a *arena.Arena) (int, api.Errno) {
	switch c.name {
	case "And":
		return slowJoin(a, api.And, c.ids)
	case "Or":
		return slowJoin(a, api.Or, c.ids)
	case "Negate":
		return slowNegate(a, c.ids[0], map[int]int{})
	}
	return slowAgain(a, c.ids[0], map[int]int{})
}

// whole is all of a formula's node; the tests ask it of numbers that are there.
func whole(a *arena.Arena, id int) api.Node {
	node, _ := a.Node(id)
	return node
}

func once(ids []int) []int {
	ids = slices.Clone(ids)
	slices.Sort(ids)
	return slices.Compact(ids)
}

// slowSpread is step 1.
func slowSpread(a *arena.Arena, kind int, left []int) []int {
	for {
		var next []int
		for _, id := range left {
			if node := whole(a, id); node.Kind == kind {
				next = append(next, node.Kids...)
			} else {
				next = append(next, id)
			}
		}
		next = once(next)
		if slices.Equal(next, left) {
			return left
		}
		left = next
	}
}

// slowFewer is step 3.
func slowFewer(a *arena.Arena, kind int, left []int) []int {
	var stay []int
	for _, id := range left {
		one := whole(a, id)
		goes := false
		for _, other := range left {
			two := whole(a, other)
			if one.Kind == api.Less && two.Kind == api.Less && tellParts(one.T.Parts) == tellParts(two.T.Parts) {
				order := zint.Cmp(two.T.K, one.T.K)
				goes = goes || kind == api.And && order < 0 || kind == api.Or && order > 0
			}
		}
		if !goes {
			stay = append(stay, id)
		}
	}
	return stay
}

// slowMeet is steps 4 and 5.
func slowMeet(kind int, one, two api.Node) bool {
	if one.Kind == api.Div && two.Kind == api.Not {
		return tellInt(one.D) == tellInt(two.D) && tellTerm(one.T) == tellTerm(two.T)
	}
	if one.Kind != api.Less || two.Kind != api.Less {
		return false
	}
	parts := slices.Clone(two.T.Parts)
	for i := range parts {
		parts[i].C = opposite(parts[i].C)
	}
	sum := zint.Add(one.T.K, two.T.K)
	return tellParts(one.T.Parts) == tellParts(parts) && (kind == api.And && zint.Cmp(sum, n(2)) < 0 || kind == api.Or && zint.Sign(sum) > 0)
}

// slowNeeded is step 6.
func slowNeeded(a *arena.Arena, kind int, left []int) []int {
	var stay []int
	for _, id := range left {
		goes := false
		for _, other := range left {
			node := whole(a, id)
			goes = goes || node.Kind == api.And+api.Or-kind && slices.Contains(node.Kids, other)
		}
		if !goes {
			stay = append(stay, id)
		}
	}
	return stay
}

func slowJoin(a *arena.Arena, kind int, ids []int) (int, api.Errno) {
	for _, id := range ids {
		if _, is := a.Node(id); !is {
			return 0, api.ErrNode
		}
	}
	left := slowSpread(a, kind, once(ids))
	idle, ruling := 1, 0
	if kind == api.Or {
		idle, ruling = 0, 1
	}
	if slices.Contains(left, ruling) {
		return ruling, api.OK
	}
	left = slowFewer(a, kind, slices.DeleteFunc(left, func(id int) bool { return id == idle }))
	for _, id := range left {
		for _, other := range left {
			if slowMeet(kind, whole(a, id), whole(a, other)) {
				return ruling, api.OK
			}
		}
	}
	return a.Join(kind, slowNeeded(a, kind, left)...)
}

func slowKids(a *arena.Arena, id int, kept map[int]int, come func(*arena.Arena, int, map[int]int) (int, api.Errno)) ([]int, api.Errno) {
	var kids []int
	for _, kid := range whole(a, id).Kids {
		came, e := come(a, kid, kept)
		if e != api.OK {
			return nil, e
		}
		kids = append(kids, came)
	}
	return kids, api.OK
}

func slowNegate(a *arena.Arena, id int, kept map[int]int) (int, api.Errno) {
	node, is := a.Node(id)
	if !is {
		return 0, api.ErrNode
	}
	if came, is := kept[id]; is {
		return came, api.OK
	}
	kids, e := slowKids(a, id, kept, slowNegate)
	if e != api.OK {
		return 0, e
	}
	came := 1 - id
	switch node.Kind {
	case api.Less, api.Div, api.Not:
		came, e = a.Atom(atom.Negate(api.Atom{Kind: node.Kind, D: node.D, T: node.T}))
	case api.And:
		came, e = slowJoin(a, api.Or, kids)
	case api.Or:
		came, e = slowJoin(a, api.And, kids)
	case api.Some:
		came, e = a.Bind(api.All, node.Var, kids[0])
	case api.All:
		came, e = a.Bind(api.Some, node.Var, kids[0])
	}
	kept[id] = came
	return came, e
}

func slowAgain(a *arena.Arena, id int, kept map[int]int) (int, api.Errno) {
	node, is := a.Node(id)
	if !is {
		return 0, api.ErrNode
	}
	if came, is := kept[id]; is {
		return came, api.OK
	}
	kids, e := slowKids(a, id, kept, slowAgain)
	if e != api.OK {
		return 0, e
	}
	came := id
	switch node.Kind {
	case api.And, api.Or:
		came, e = slowJoin(a, node.Kind, kids)
	case api.Some, api.All:
		came, e = a.Bind(node.Kind, node.Var, kids[0])
	}
	kept[id] = came
	return came, e
}

// A dice draws numbers, always the same ones.
type dice struct{ state uint64 }

// roll is one of 0 to n - 1.
func (d *dice) roll(n int) int {
	d.state = d.state*6364136223846793005 + 1442695040888963407
	return int((d.state >> 33) % uint64(n))
}

// number is a small one mostly; rarely one of so many limbs, at their end, so that its opposite less 1 may have one more.
func (d *dice) number(limbs int) api.Int {
	if d.roll(8) > 0 {
		return n(d.roll(7) - 3)
	}
	a := widest(limbs)
	a.Mag[0] -= uint32(d.roll(2))
	a.Neg = d.roll(2) == 0
	return a
}

// atom draws from few variables and coefficients, so that many have the same parts, or opposite ones.
func (d *dice) atom(limbs int) api.Atom {
	x := api.Atom{Kind: []int{api.Less, api.Less, api.Less, api.Div, api.Not}[d.roll(5)], D: n(2 + d.roll(3)), T: api.Term{K: d.number(limbs)}}
	for range 1 + d.roll(2) {
		x.T.Parts = append(x.T.Parts, p(d.roll(2+d.roll(2)), []int{1, -1, 1, -1, 2, -3}[d.roll(6)]))
	}
	return x
}

// among draws the number of a node.
func (d *dice) among(nodes int) int {
	if d.roll(3) == 0 {
		return d.roll(nodes)
	}
	return nodes - 1 - d.roll(min(nodes, 9))
}

func (d *dice) several(nodes, few int) []int {
	var ids []int
	for range d.roll(few + 1) {
		ids = append(ids, d.among(nodes))
	}
	return ids
}

// grow lays a node in an arena, if the meter lets it: an atom, or a formula above what is there, not made simpler.
func (d *dice) grow(a *arena.Arena, limbs int) {
	nodes := a.Len()
	switch d.roll(9) {
	case 0, 1, 2, 3:
		a.Atom(d.atom(limbs))
	case 4:
		a.Bind(api.Some+d.roll(2), d.roll(3), d.among(nodes))
	default:
		a.Join(api.And+d.roll(2), d.several(nodes, 6)...)
	}
}

// grown is an arena with what was drawn there. The same dice and the same bounds make the same one.
func grown(t *testing.T, d *dice, most, nodes, limbs int) *arena.Arena {
	t.Helper()
	a := arena.New(meterOf(t, nodes, limbs))
	for range 2 + d.roll(most) {
		d.grow(a, limbs)
	}
	return a
}

// call draws one of the four, rarely with a number of no node.
func (d *dice) call(nodes int) call {
	c := call{name: names()[d.roll(4)], ids: d.several(nodes, 8)}
	if c.name == "Negate" || c.name == "Again" {
		c.ids = append(c.ids, d.among(nodes))
	}
	if len(c.ids) > 0 && d.roll(20) == 0 {
		c.ids[d.roll(len(c.ids))] = []int{-1, nodes, nodes + 1, least, most}[d.roll(5)]
	}
	return c
}

// Calls that are drawn are answered as the slow ones are, and the arena is the same behind them: what was made, in which
// order, and what was counted.
func TestDrawnCalls(t *testing.T) {
	d := &dice{state: 91}
	refused, made, constant, fewer := map[api.Errno]int{}, map[string]int{}, 0, 0
	for range drawn {
		nodes, limbs := 1+d.roll(100), 1+d.roll(2)
		twin := *d
		a, b := grown(t, d, 60, nodes, limbs), grown(t, &twin, 60, nodes, limbs)
		row := tellArena(a)
		for range 1 + d.roll(12) {
			c := d.call(a.Len())
			row += "\n" + c.String()
			was := a.Len()
			got, e := c.do(a)
			want, wantE := c.slow(b)
			if got != want || e != wantE || tellArena(a) != tellArena(b) {
				t.Fatalf("%s: %d, %v, want %d, %v\n%s\nwant\n%s", row, got, e, want, wantE, tellArena(a), tellArena(b))
			}
			refused[e]++
			made[c.name] += a.Len() - was
			if e == api.OK && len(c.ids) > 1 && c.name[0] != 'N' && got < 2 {
				constant++
			}
			if e == api.OK && got > 1 && len(whole(a, got).Kids) < len(once(c.ids)) {
				fewer++
			}
		}
	}
	// What was drawn has all that the test is for.
	if min(refused[api.ErrNode], refused[api.ErrNodes], refused[api.ErrLimbs]) < drawn/20 || min(constant, fewer) < drawn/2 ||
		min(made["And"], made["Or"], made["Negate"], made["Again"]) < drawn/10 {
		t.Errorf("refused %v, made %v, constants %d, fewer %d", refused, made, constant, fewer)
	}
}
