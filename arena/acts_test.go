package arena_test

import (
	"math"
	"slices"
	"strconv"
	"strings"
	"testing"

	"riddle/api"
	"riddle/arena"
	"riddle/atom"
	"riddle/meter"
)

const (
	top   = 1<<32 - 1
	least = math.MinInt
	most  = math.MaxInt
	// drawn is how many rows of calls a test draws.
	drawn = 1500
)

// Numbers, terms and atoms are made here by short calls, as they stand or not.

func above(limbs ...uint32) api.Int { return api.Int{Mag: limbs} }

func below(limbs ...uint32) api.Int { return api.Int{Neg: true, Mag: limbs} }

// n is a small number, made without the layers below.
func n(k int) api.Int {
	switch {
	case k == 0:
		return api.Int{}
	case k < 0:
		return below(uint32(-k))
	}
	return above(uint32(k))
}

// wide is a number of just so many limbs, as small as such a one can be.
func wide(limbs int) api.Int { return above(append(make([]uint32, limbs-1), 1)...) }

// widest is the greatest number of just so many limbs.
func widest(limbs int) api.Int { return above(slices.Repeat([]uint32{top}, limbs)...) }

func opposite(a api.Int) api.Int { return api.Int{Neg: !a.Neg, Mag: a.Mag} }

func p(v, c int) api.Part { return api.Part{Var: v, C: n(c)} }

func big(v int, c api.Int) api.Part { return api.Part{Var: v, C: c} }

func of(k int, parts ...api.Part) api.Term { return api.Term{Parts: parts, K: n(k)} }

func bigOf(k api.Int, parts ...api.Part) api.Term { return api.Term{Parts: parts, K: k} }

func less(t api.Term) api.Atom { return api.Atom{Kind: api.Less, T: t} }

func div(d int, t api.Term) api.Atom { return api.Atom{Kind: api.Div, D: n(d), T: t} }

func not(d int, t api.Term) api.Atom { return api.Atom{Kind: api.Not, D: n(d), T: t} }

// The tellers tell all fields as they stand, limb by limb, so that what differs in anything is told otherwise.

func tellInt(a api.Int) string {
	var b strings.Builder
	if a.Neg {
		b.WriteString("-")
	}
	for _, limb := range a.Mag {
		b.WriteString("'" + strconv.FormatUint(uint64(limb), 10))
	}
	return b.String()
}

func tellTerm(t api.Term) string {
	var b strings.Builder
	for _, q := range t.Parts {
		b.WriteString(tellInt(q.C) + " v" + strconv.Itoa(q.Var) + " + ")
	}
	return b.String() + tellInt(t.K)
}

func tellList(l []int) string {
	var texts []string
	for _, id := range l {
		texts = append(texts, strconv.Itoa(id))
	}
	return "(" + strings.Join(texts, ", ") + ")"
}

func tell(x api.Node) string {
	return "[kind " + strconv.Itoa(x.Kind) + ", " + tellInt(x.D) + ", " + tellTerm(x.T) + ", v" + strconv.Itoa(x.Var) + ", " + tellList(x.Kids) + "]"
}

const (
	isAtom = iota
	isJoin
	isBind
	isNode
	isLen
	isFree
	isReach
	isPlain
	isRelease
	actKinds
)

// An act is a call of an arena, with all that it is given.
type act struct {
	call    int
	atom    api.Atom
	kind, v int
	id      int
	kids    []int
}

func atomOf(x api.Atom) act { return act{call: isAtom, atom: x} }

func join(kind int, kids ...int) act { return act{call: isJoin, kind: kind, kids: kids} }

func bind(kind, v, kid int) act { return act{call: isBind, kind: kind, v: v, id: kid} }

func node(id int) act { return act{call: isNode, id: id} }

func length() act { return act{call: isLen} }

func free(id int) act { return act{call: isFree, id: id} }

func reach(id int) act { return act{call: isReach, id: id} }

func plain(id int) act { return act{call: isPlain, id: id} }

func release(n int) act { return act{call: isRelease, id: n} }

func (c act) String() string {
	id := strconv.Itoa(c.id)
	switch c.call {
	case isAtom:
		return "Atom(kind " + strconv.Itoa(c.atom.Kind) + ", " + tellInt(c.atom.D) + ", " + tellTerm(c.atom.T) + ")"
	case isJoin:
		return "Join(kind " + strconv.Itoa(c.kind) + ", " + tellList(c.kids) + ")"
	case isBind:
		return "Bind(kind " + strconv.Itoa(c.kind) + ", v" + strconv.Itoa(c.v) + ", " + id + ")"
	case isLen:
		return "Len()"
	}
	return [...]string{isNode: "Node", isFree: "Free", isReach: "Reach", isPlain: "Plain", isRelease: "Release"}[c.call] + "(" + id + ")"
}

// An answer is what a call gives back, each thing in the place of its kind.
type answer struct {
	id   int
	e    api.Errno
	node api.Node
	is   bool
	list []int
}

func (a answer) String() string {
	return strconv.Itoa(a.id) + "; error " + strconv.Itoa(int(a.e)) + "; " + tell(a.node) + "; " + strconv.FormatBool(a.is) + "; " + tellList(a.list)
}

// Answers are made here by short calls, too.

func id(number int) answer { return answer{id: number} }

func err(e api.Errno) answer { return answer{e: e} }

func yes() answer { return answer{is: true} }

func no() answer { return answer{} }

func list(l ...int) answer { return answer{list: l} }

func is(x api.Node) answer { return answer{node: x, is: true} }

// numbered is what a call that makes a node answers.
func numbered(id int, e api.Errno) answer { return answer{id: id, e: e} }

// do is what the arena answers.
func (c act) do(a *arena.Arena) answer {
	switch c.call {
	case isAtom:
		return numbered(a.Atom(c.atom))
	case isJoin:
		return numbered(a.Join(c.kind, c.kids...))
	case isBind:
		return numbered(a.Bind(c.kind, c.v, c.id))
	case isNode:
		x, ok := a.Node(c.id)
		return answer{node: x, is: ok}
	case isLen:
		return id(a.Len())
	case isFree:
		return list(a.Free(c.id)...)
	case isReach:
		return list(a.Reach(c.id)...)
	case isPlain:
		return answer{is: a.Plain(c.id)}
	}
	return err(a.Release(c.id))
}

// A line is a call with what is wanted of it.
type line struct {
	act  act
	want answer
}

// follow does calls of one arena, one behind the other.
func follow(t *testing.T, a *arena.Arena, lines ...line) {
	t.Helper()
	for i, l := range lines {
		if got := l.act.do(a); got.String() != l.want.String() {
			t.Errorf("line %d, %s: %s, want %s", i, short(l.act.String()), short(got.String()), short(l.want.String()))
		}
	}
}

// short cuts what would fill pages.
func short(text string) string {
	if len(text) > 500 {
		return text[:500] + ".."
	}
	return text
}

func meterOf(t *testing.T, nodes, limbs int) *meter.Meter {
	t.Helper()
	m, e := meter.New(nodes, limbs)
	if m == nil || e != api.OK {
		t.Fatalf("meter.New(%d, %d): %v", nodes, limbs, e)
	}
	return m
}

// counts fails unless a meter has counted so many, and is over by that.
func counts(t *testing.T, m *meter.Meter, spent int, over api.Errno) {
	t.Helper()
	if m.Spent() != spent || m.Over() != over {
		t.Errorf("the meter: %d, %v, want %d, %v", m.Spent(), m.Over(), spent, over)
	}
}

// A slow meter and a slow arena do what the chapters say, word by word; tests hold arenas against them.

type slowMeter struct {
	nodes, limbs, counted int
	crossed               api.Errno
}

func (m *slowMeter) node(numbers []api.Int) api.Errno {
	if m.crossed != api.OK {
		return m.crossed
	}
	for _, k := range numbers {
		limbs := len(k.Mag)
		for limbs > 0 && k.Mag[limbs-1] == 0 {
			limbs--
		}
		if limbs > m.limbs {
			m.crossed = api.ErrLimbs
			return m.crossed
		}
	}
	if m.counted == m.nodes {
		m.crossed = api.ErrNodes
		return m.crossed
	}
	m.counted++
	return api.OK
}

type slow struct {
	nodes []api.Node
	meter *slowMeter
}

func newSlow(m *slowMeter) *slow {
	return &slow{[]api.Node{{Kind: api.False}, {Kind: api.True}}, m}
}

func slowNumbers(x api.Node) []api.Int {
	var numbers []api.Int
	switch x.Kind {
	case api.Div, api.Not:
		numbers = append(numbers, x.D)
		fallthrough
	case api.Less:
		for _, q := range x.T.Parts {
			numbers = append(numbers, q.C)
		}
		numbers = append(numbers, x.T.K)
	}
	return numbers
}

// produce looks at all nodes, one by one.
func (s *slow) produce(x api.Node) answer {
	for number, other := range s.nodes {
		if tell(other) == tell(x) {
			return id(number)
		}
	}
	if e := s.meter.node(slowNumbers(x)); e != api.OK {
		return err(e)
	}
	s.nodes = append(s.nodes, x)
	return id(len(s.nodes) - 1)
}

func (s *slow) has(id int) bool { return id >= 0 && id < len(s.nodes) }

func (s *slow) do(c act) answer {
	switch c.call {
	case isAtom:
		return s.atom(c.atom)
	case isJoin:
		return s.join(c.kind, c.kids)
	case isBind:
		return s.bind(c.kind, c.v, c.id)
	case isLen:
		return id(len(s.nodes))
	case isRelease:
		return s.release(c.id)
	}
	if !s.has(c.id) {
		return answer{}
	}
	switch c.call {
	case isNode:
		return is(s.nodes[c.id])
	case isFree:
		return list(s.free(c.id)...)
	case isReach:
		return list(s.reach(c.id)...)
	}
	return answer{is: s.plain(c.id)}
}

func (s *slow) atom(x api.Atom) answer {
	form, e := atom.Norm(x)
	switch {
	case e != api.OK:
		return err(e)
	case form.Kind == api.False:
		return id(0)
	case form.Kind == api.True:
		return id(1)
	}
	return s.produce(api.Node{Kind: form.Kind, D: form.D, T: form.T})
}

func (s *slow) join(kind int, kids []int) answer {
	if kind != api.And && kind != api.Or {
		return err(api.ErrArg)
	}
	for _, kid := range kids {
		if !s.has(kid) {
			return err(api.ErrNode)
		}
	}
	var once []int
	for kid := range s.nodes {
		if slices.Contains(kids, kid) {
			once = append(once, kid)
		}
	}
	switch len(once) {
	case 0:
		return id(map[int]int{api.And: 1, api.Or: 0}[kind])
	case 1:
		return id(once[0])
	}
	return s.produce(api.Node{Kind: kind, Kids: once})
}

func (s *slow) bind(kind, v, kid int) answer {
	if kind != api.Some && kind != api.All {
		return err(api.ErrArg)
	}
	if !s.has(kid) {
		return err(api.ErrNode)
	}
	return s.produce(api.Node{Kind: kind, Var: v, Kids: []int{kid}})
}

func (s *slow) release(n int) answer {
	if n < 2 || n > len(s.nodes) {
		return err(api.ErrArg)
	}
	s.nodes = slices.Clone(s.nodes[:n])
	return answer{}
}

// isBelow tells whether a node is made of another one.
func (s *slow) isBelow(of, other int) bool {
	return of == other || slices.ContainsFunc(s.nodes[of].Kids, func(kid int) bool { return kid >= other && s.isBelow(kid, other) })
}

func (s *slow) reach(of int) []int {
	var l []int
	for other := range s.nodes {
		if s.isBelow(of, other) {
			l = append(l, other)
		}
	}
	return l
}

func (s *slow) plain(of int) bool {
	return !slices.ContainsFunc(s.reach(of), func(other int) bool { return s.nodes[other].Kind > api.Or })
}

// isFree looks for a way from a node down to an atom that has the variable, past no quantifier that binds it. Where it
// has come by already, there is none.
func (s *slow) isFree(v, in int, seen map[int]int) bool {
	seen[in]++
	x := s.nodes[in]
	if seen[in] > 1 || x.Kind > api.Or && x.Var == v {
		return false
	}
	return slices.ContainsFunc(x.T.Parts, func(q api.Part) bool { return q.Var == v }) ||
		slices.ContainsFunc(x.Kids, func(kid int) bool { return s.isFree(v, kid, seen) })
}

func (s *slow) free(of int) []int {
	var vars []int
	for _, x := range s.nodes {
		for _, q := range x.T.Parts {
			vars = append(vars, q.Var)
		}
	}
	slices.Sort(vars)
	return slices.DeleteFunc(slices.Compact(vars), func(v int) bool { return !s.isFree(v, of, map[int]int{}) })
}

// A dice draws numbers, always the same ones.
type dice struct{ state uint64 }

// roll is one of 0 to n - 1.
func (d *dice) roll(n int) int {
	d.state = d.state*6364136223846793005 + 1442695040888963407
	return int((d.state >> 33) % uint64(n))
}

// number is a small one mostly, so that what is drawn is often there already; rarely one of about as many limbs as near.
func (d *dice) number(near int) api.Int {
	if d.roll(20) > 0 {
		return n(d.roll(7) - 3)
	}
	a := above(slices.Repeat([]uint32{uint32(1 + d.roll(3))}, max(1, near-d.roll(3)))...)
	if d.roll(6) == 0 {
		a = wide(near + 1)
	}
	a.Mag = append(a.Mag, make([]uint32, d.roll(3))...)
	a.Neg = d.roll(2) == 0
	return a
}

func variables() []int { return []int{0, 1, 2, -1, 12, -12, least, most} }

func (d *dice) variable() int {
	// Those ahead are drawn more often.
	return variables()[d.roll(1+d.roll(len(variables())))]
}

// atom draws one of any kind, rarely of none, whose term often does not stand as it should.
func (d *dice) atom(limbs int) api.Atom {
	x := api.Atom{Kind: api.Less + d.roll(3), D: d.number(limbs), T: api.Term{K: d.number(limbs)}}
	if d.roll(8) == 0 {
		x.Kind = []int{api.False, api.True, api.And, api.Some, -1, 9, most, least}[d.roll(8)]
	}
	for range d.roll(4) {
		x.T.Parts = append(x.T.Parts, api.Part{Var: d.variable(), C: d.number(limbs)})
	}
	return x
}

// among draws the number of a node, one near the last ones mostly, rarely of none.
func (d *dice) among(nodes int) int {
	switch d.roll(25) {
	case 0:
		return []int{-1, nodes, nodes + 1, least, most}[d.roll(5)]
	case 1, 2, 3, 4, 5:
		return d.roll(nodes)
	}
	return nodes - 1 - d.roll(min(nodes, 6))
}

func (d *dice) act(nodes, limbs int) act {
	switch d.roll(12) {
	case 0:
		return act{call: d.roll(actKinds), id: d.among(nodes) + d.roll(3), kind: d.roll(11) - 1, atom: d.atom(limbs)}
	case 1:
		return release(nodes - d.roll(3))
	case 2, 3:
		return bind(api.Some+d.roll(2), d.variable(), d.among(nodes))
	case 4, 5, 6, 7:
		c := join(api.And + d.roll(2))
		for range d.roll(5) {
			c.kids = append(c.kids, d.among(nodes))
		}
		return c
	}
	return atomOf(d.atom(limbs))
}

// agree fails unless an arena is what the slow one is, in all that calls can tell of it.
func agree(t *testing.T, row string, a *arena.Arena, s *slow) {
	t.Helper()
	for of := -1; of <= len(s.nodes); of++ {
		for _, c := range []act{node(of), free(of), reach(of), plain(of), length()} {
			if got, want := c.do(a).String(), s.do(c).String(); got != want {
				t.Fatalf("behind%s: %s: %s, want %s", row, c, got, want)
			}
		}
	}
	if a.Meter().Spent() != s.meter.counted || a.Meter().Over() != s.meter.crossed {
		t.Fatalf("behind%s: the meter: %d, %v, want %d, %v", row, a.Meter().Spent(), a.Meter().Over(), s.meter.counted, s.meter.crossed)
	}
}

// Calls that are drawn are answered as the slow arena does, whatever stands ahead of them.
func TestDrawnRows(t *testing.T) {
	d := &dice{state: 81}
	crossed, kinds := map[api.Errno]int{}, [api.All + 1]int{}
	again, refused := 0, map[api.Errno]int{}
	for range drawn {
		nodes, limbs := 1+d.roll(80), 1+d.roll(api.MaxLimbs)
		s := newSlow(&slowMeter{nodes: nodes, limbs: limbs})
		a := arena.New(meterOf(t, nodes, limbs))
		row := ""
		for range 1 + d.roll(80) {
			c := d.act(len(s.nodes), limbs)
			row += " " + c.String()
			was := len(s.nodes)
			got, want := c.do(a), s.do(c)
			if got.String() != want.String() {
				t.Fatalf("New(of %d, %d):%s: %s, want %s", nodes, limbs, row, got, want)
			}
			if c.call <= isBind && want.e == api.OK && want.id > 1 && len(s.nodes) == was {
				again++
			}
			refused[want.e]++
		}
		agree(t, row, a, s)
		crossed[s.meter.crossed]++
		for _, x := range s.nodes {
			kinds[x.Kind]++
		}
	}
	// What was drawn has all that the test is for.
	if slices.Min(kinds[:]) < drawn/3 || again < drawn || min(crossed[api.OK], crossed[api.ErrNodes], crossed[api.ErrLimbs]) < drawn/20 ||
		min(refused[api.ErrArg], refused[api.ErrNode], refused[api.ErrZero]) < drawn/2 {
		t.Errorf("kinds %v, %d found again, crossed %v, refused %v", kinds, again, crossed, refused)
	}
}
