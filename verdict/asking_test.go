package verdict_test

import (
	"slices"
	"strconv"
	"strings"
	"testing"

	"riddle/api"
	"riddle/periods"
	"riddle/syntax"
	"riddle/verdict"
	"riddle/zint"
)

const (
	top      = 1<<32 - 1
	mostDeep = 60
	// drawn is how many formulas a test draws.
	drawn = 2000
)

// The calls; find is Witness, which has the name of a package that tests look into.
const (
	eliminate = iota
	decide
	eval
	find
	cost
	solutions
	calls
)

// An asking is a call with what it is handed; those that take no values are handed none.
type asking struct {
	call int
	tree api.Tree
	vals []api.Int
}

// An answer is all that a call told.
type answer struct {
	call  int
	tree  api.Tree
	steps []api.Step
	is    bool
	list  []api.Int
	count int
	set   *periods.Set
	e     api.Errno
}

func (q asking) ask() answer {
	a := answer{call: q.call}
	switch q.call {
	case eliminate:
		a.tree, a.steps, a.e = verdict.Eliminate(q.tree)
	case decide:
		a.is, a.e = verdict.Decide(q.tree)
	case eval:
		a.is, a.e = verdict.Eval(q.tree, q.vals)
	case find:
		a.list, a.e = verdict.Witness(q.tree, q.vals)
	case cost:
		a.count, a.e = verdict.Cost(q.tree)
	case solutions:
		a.set, a.e = verdict.Solutions(q.tree)
	}
	return a
}

func (q asking) name() string {
	return []string{"Eliminate", "Decide", "Eval", "Witness", "Cost", "Solutions"}[q.call]
}

func (q asking) String() string {
	return short(q.name() + "(" + tellFormula(q.tree) + "; " + tellNumbers(q.vals) + ")")
}

// String tells an answer: beside an error it is that alone, unless something stands there that should not.
func (a answer) String() string {
	text := ""
	switch a.call {
	case eliminate:
		text = tellFormula(a.tree) + tellSteps(a.steps)
	case decide, eval:
		text = strconv.FormatBool(a.is)
	case find:
		text = tellNumbers(a.list)
	case cost:
		text = strconv.Itoa(a.count)
	case solutions:
		text = tellSet(a.set)
	}
	if a.e == api.OK {
		return text
	}
	wrong := "error " + strconv.Itoa(int(a.e))
	if !a.isZero() {
		wrong += " beside " + text
	}
	return wrong
}

func (a answer) isZero() bool {
	return tellTree(a.tree) == tellTree(api.Tree{}) && a.steps == nil && !a.is && a.list == nil && a.count == 0 && a.set == nil
}

// tellFormula is a formula's text; of what has none, all of its fields.
func tellFormula(t api.Tree) string {
	text, e := syntax.Print(t)
	if e != api.OK {
		return tellTree(t)
	}
	return text
}

func tellTree(t api.Tree) string {
	var b strings.Builder
	b.WriteString(strconv.Itoa(t.Kind))
	if t.Name != "" {
		b.WriteString(strconv.Quote(t.Name))
	}
	for _, name := range t.Names {
		b.WriteString("," + strconv.Quote(name))
	}
	b.WriteString(tellLimbs(t.N))
	for _, kid := range t.Kids {
		b.WriteString("(" + tellTree(kid) + ")")
	}
	return b.String()
}

func tellLimbs(a api.Int) string {
	text := ""
	if a.Neg {
		text = "-"
	}
	for _, limb := range a.Mag {
		text += "'" + strconv.FormatUint(uint64(limb), 10)
	}
	return text
}

// tellNumber marks a number that does not stand as it should.
func tellNumber(a api.Int) string {
	if !zint.Valid(a) {
		return "!" + tellLimbs(a)
	}
	return zint.Text(a)
}

func tellNumbers(l []api.Int) string {
	var texts []string
	for _, a := range l {
		texts = append(texts, tellNumber(a))
	}
	return strings.Join(texts, " ")
}

// tellSteps tells of each step its variable, L, Delta, the side, how many bounds and points.
func tellSteps(steps []api.Step) string {
	text := ""
	for _, s := range steps {
		side := "low"
		if s.High {
			side = "high"
		}
		text += "; v" + strconv.Itoa(s.Var) + " " + tellNumber(s.L) + " " + tellNumber(s.Delta) + " " + side + " " + strconv.Itoa(s.Bounds) + " " + strconv.Itoa(s.Points)
	}
	return text
}

// tellSet tells the period, and the remainders below all cuts and behind each of them.
func tellSet(s *periods.Set) string {
	if s == nil {
		return "no set"
	}
	cuts := s.Cuts()
	row := func(from api.Int) string {
		text := ""
		for r := range s.Period() {
			at := zint.Add(from, zint.Of(int64(r)))
			if s.Has(at) {
				_, left, _ := zint.DivMod(at, zint.Of(int64(s.Period())))
				text += " " + zint.Text(left)
			}
		}
		return text
	}
	first := zint.Of(0)
	if len(cuts) > 0 {
		first = zint.Sub(cuts[0], zint.Of(int64(s.Period())))
	}
	text := "by " + strconv.Itoa(s.Period()) + ":" + row(first)
	for _, cut := range cuts {
		text += "; from " + tellNumber(cut) + ":" + row(cut)
	}
	return text
}

// short cuts what would fill pages.
func short(text string) string {
	if len(text) > 2000 {
		return text[:2000] + ".."
	}
	return text
}

// wants fails unless a call answers that.
func (q asking) wants(t *testing.T, want string) {
	t.Helper()
	if got := q.ask().String(); got != want {
		t.Errorf("%s: %s, want %s", q, short(got), short(want))
	}
}

func (q asking) refuses(t *testing.T, e api.Errno) {
	t.Helper()
	q.wants(t, answer{call: q.call, e: e}.String())
}

// of is a call of a tree, with values.
func of(call int, tree api.Tree, vals ...api.Int) asking {
	return asking{call, tree, vals}
}

// A row is a call of a formula's text, with the values, and what is to be answered: E and a number is an error.
type row struct {
	call       int
	text, vals string
	want       string
}

func askAll(t *testing.T, rows []row) {
	t.Helper()
	for _, r := range rows {
		want := r.want
		if number, is := strings.CutPrefix(want, "E"); is {
			want = "error " + number
		}
		of(r.call, read(t, r.text), numbers(t, r.vals)...).wants(t, want)
	}
}

// read is a text's tree; N and a number of limbs in it is the greatest number of so many, M the one next to it.
func read(t *testing.T, text string) api.Tree {
	t.Helper()
	words := strings.Fields(text)
	for i, word := range words {
		words[i] = great(word)
	}
	u, wrong := syntax.Parse(strings.Join(words, " "))
	if wrong != (api.Mishap{}) {
		t.Fatalf("Parse(%q): %v", text, wrong)
	}
	return u
}

func numbers(t *testing.T, text string) []api.Int {
	t.Helper()
	var l []api.Int
	for _, word := range strings.Fields(text) {
		a, e := zint.Parse(great(word))
		if e != api.OK {
			t.Fatalf("no number: %q", word)
		}
		l = append(l, a)
	}
	return l
}

// great is a word, or the number that it stands for.
func great(word string) string {
	sign, less := "", 0
	name, below := strings.CutPrefix(word, "-")
	if below {
		sign = "-"
	}
	limbs, is := strings.CutPrefix(name, "N")
	if !is {
		limbs, is = strings.CutPrefix(name, "M")
		less = 1
	}
	many, e := strconv.Atoi(limbs)
	if !is || e != nil {
		return word
	}
	return sign + zint.Text(widest(many, less))
}

// widest is the greatest number of so many limbs, but for a little.
func widest(limbs, less int) api.Int {
	a := api.Int{Mag: slices.Repeat([]uint32{top}, limbs)}
	a.Mag[0] -= uint32(less)
	return a
}
