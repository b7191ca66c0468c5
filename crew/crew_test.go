package crew_test

import (
	"math"
	"strconv"
	"strings"
	"testing"

	"riddle/api"
	"riddle/crew"
	"riddle/syntax"
	"riddle/verdict"
	"riddle/zint"
)

// numbers are small ones, as they should stand.
func numbers(l ...int) []api.Int {
	var all []api.Int
	for _, k := range l {
		all = append(all, zint.Of(int64(k)))
	}
	return all
}

func job(kind int, text string, values ...int) api.Job {
	return api.Job{Kind: kind, Text: text, Values: numbers(values...)}
}

// tell is an answer with all that it has, numbers by their limbs; of no numbers nothing.
func tell(a api.Answer) string {
	text := strconv.Itoa(int(a.Code)) + " at " + strconv.Itoa(a.At) + " " + strconv.FormatBool(a.Truth) + " '" + a.Text + "'"
	for _, n := range a.Values {
		text += " " + strconv.FormatBool(n.Neg)
		for _, limb := range n.Mag {
			text += "'" + strconv.FormatUint(uint64(limb), 10)
		}
	}
	return text
}

func tellJob(j api.Job) string {
	text := strconv.Itoa(j.Kind) + " " + strconv.Quote(j.Text[:min(len(j.Text), 200)])
	for _, n := range j.Values {
		text += " " + zint.Text(n)
	}
	return text
}

func wants(t *testing.T, j api.Job, want api.Answer) {
	t.Helper()
	if got := crew.Do(j); tell(got) != tell(want) {
		t.Errorf("Do(%s): %s, want %s", tellJob(j), tell(got), tell(want))
	}
}

// alone is what a job answers, step by step as the chapter has it.
func alone(j api.Job) api.Answer {
	if j.Kind != api.JobEliminate && j.Kind != api.JobDecide && j.Kind != api.JobEval && j.Kind != api.JobWitness {
		return api.Answer{Code: api.ErrArg}
	}
	f, wrong := syntax.Parse(j.Text)
	if wrong.Code != api.OK {
		return api.Answer{Code: wrong.Code, At: wrong.At}
	}
	if j.Kind == api.JobDecide {
		is, e := verdict.Decide(f)
		return api.Answer{Code: e, Truth: is}
	}
	if j.Kind == api.JobEval {
		is, e := verdict.Eval(f, j.Values)
		return api.Answer{Code: e, Truth: is}
	}
	if j.Kind == api.JobWitness {
		l, e := verdict.Witness(f, j.Values)
		return api.Answer{Code: e, Values: l}
	}
	plain, _, e := verdict.Eliminate(f)
	if e != api.OK {
		return api.Answer{Code: e}
	}
	text, e := syntax.Print(plain)
	return api.Answer{Code: e, Text: text}
}

// kinds are the four.
var kinds = []int{api.JobEliminate, api.JobDecide, api.JobEval, api.JobWitness}

// otherKinds are some that are none of the four.
var otherKinds = []int{0, -1, api.JobWitness + 1, 9, math.MinInt, math.MaxInt, 1 << 32, 1<<32 + api.JobDecide}

func TestP231Examples(t *testing.T) {
	wants(t, job(api.JobDecide, "some x. x > 5"), api.Answer{Truth: true})
	wants(t, job(api.JobDecide, "some x x >"), api.Answer{Code: api.ErrSyntax, At: 9})
	wants(t, job(9, "("), api.Answer{Code: api.ErrArg})
	wants(t, job(api.JobEval, "x < y", 1, 2), api.Answer{Truth: true})
	wants(t, job(api.JobWitness, "some x. x = y + 1", 4), api.Answer{Values: numbers(5)})
	wants(t, job(api.JobEliminate, "true and x < 1"), api.Answer{Text: "x < 1"})
}

// Each kind answers in fields of its own.
func TestP231Kinds(t *testing.T) {
	for _, l := range []struct {
		j    api.Job
		want api.Answer
	}{
		{job(api.JobEliminate, "some x . 2 * x = y"), api.Answer{Text: "2 divides y"}},
		{job(api.JobEliminate, "some x . y < 2 * x and 2 * x < y + 2"), api.Answer{Text: "2 divides y + 1"}},
		{job(api.JobEliminate, "all x . x < y"), api.Answer{Text: "false"}},
		{job(api.JobEliminate, "true"), api.Answer{Text: "true"}},
		{job(api.JobEliminate, "not (x < 1 and y < z)"), api.Answer{Text: "0 < x or z < y + 1"}},
		{job(api.JobDecide, "all x . some y . 2 * y = x or 2 * y = x + 1"), api.Answer{Truth: true}},
		{job(api.JobDecide, "some x . 2 * x = 3"), api.Answer{}},
		{job(api.JobDecide, "true"), api.Answer{Truth: true}},
		{job(api.JobDecide, "false"), api.Answer{}},
		{job(api.JobEval, "some y . x = 3 * y", 6), api.Answer{Truth: true}},
		{job(api.JobEval, "some y . x = 3 * y", 7), api.Answer{}},
		{job(api.JobEval, "y < x", 1, 2), api.Answer{}},
		{job(api.JobEval, "true"), api.Answer{Truth: true}},
		{job(api.JobWitness, "some x y . x = 7 and y = -8"), api.Answer{Values: numbers(7, -8)}},
		{job(api.JobWitness, "some y x . x = 7 and y = -8"), api.Answer{Values: numbers(-8, 7)}},
		{job(api.JobWitness, "some x . x = 0"), api.Answer{Values: numbers(0)}},
		{job(api.JobWitness, "some x . x = 18446744073709551616"), api.Answer{Values: []api.Int{{Mag: []uint32{0, 0, 1}}}}},
		{job(api.JobWitness, "some x . some y . x = a and y = b", -3, 4), api.Answer{Values: numbers(-3, 4)}},
	} {
		wants(t, l.j, l.want)
	}
}

// A kind that is none of the four is refused, whatever the text and the values are.
func TestP231OtherKinds(t *testing.T) {
	for _, kind := range otherKinds {
		for _, text := range []string{"", "true", "some x . x = y", "(", "x < $", strings.Repeat(" ", api.MaxText+1)} {
			wants(t, job(kind, text), api.Answer{Code: api.ErrArg})
			wants(t, job(kind, text, 1), api.Answer{Code: api.ErrArg})
		}
	}
}

// A text that is no formula is refused with its place, by each kind, whatever values come with it.
func TestP231Texts(t *testing.T) {
	for _, l := range []struct {
		text string
		code api.Errno
		at   int
	}{
		{"", api.ErrEnd, 0}, {"   ", api.ErrEnd, 3}, {"x", api.ErrEnd, 1}, {"x <", api.ErrEnd, 3}, {"x < 1 <", api.ErrSyntax, 6}, {"(", api.ErrEnd, 1}, {"true and", api.ErrEnd, 8}, {"true false", api.ErrSyntax, 5},
		{"x < $", api.ErrWord, 4}, {"x < 007", api.ErrForm, 4}, {"x < 1 and 0 divides x", api.ErrZero, 10}, {"x < 1 and \x00", api.ErrWord, 10}, {"x < \xff", api.ErrWord, 4},
		{strings.Repeat("not ", api.MaxDepth) + "true", api.ErrDepth, 0}, {strings.Repeat(" ", api.MaxText-3) + "true", api.ErrText, 0},
		{strings.Repeat(" ", api.MaxText-4) + "some", api.ErrEnd, api.MaxText},
	} {
		for _, kind := range kinds {
			wants(t, job(kind, l.text), api.Answer{Code: l.code, At: l.at})
			wants(t, job(kind, l.text, 1, 2), api.Answer{Code: l.code, At: l.at})
		}
	}
	// What is at the bounds is read.
	wants(t, job(api.JobDecide, strings.Repeat(" ", api.MaxText-4)+"true"), api.Answer{Truth: true})
	wants(t, job(api.JobDecide, strings.Repeat("not ", api.MaxDepth-1)+"true"), api.Answer{})
}

// iffs are so many comparisons, joined by iff: a formula of few nodes, and of many trees.
func iffs(many int) string {
	var l []string
	for i := range many {
		l = append(l, "a"+strconv.Itoa(i)+" < 1")
	}
	return strings.Join(l, " iff ")
}

// sum is one of so many names, which begin with a word.
func sum(word string, many int) string {
	var l []string
	for i := range many {
		l = append(l, word+strconv.Itoa(i))
	}
	return strings.Join(l, " + ")
}

const (
	// long has a number of too many limbs, endless needs too many points.
	long    = "x < 1000000000000000000000000000000000000000000000000000000000000000000000000000000000000"
	endless = "1999 divides x and 2000 divides x + "
)

// What verdict refuses is told by its error alone.
func TestP231Refused(t *testing.T) {
	for _, l := range []struct {
		j    api.Job
		code api.Errno
	}{
		{job(api.JobEliminate, long), api.ErrLimbs},
		{job(api.JobEliminate, "some x . "+endless+"y"), api.ErrNodes},
		{job(api.JobEliminate, iffs(12)), api.ErrStore},
		{job(api.JobDecide, "x < 1"), api.ErrOpen},
		{job(api.JobDecide, "some x . y < x"), api.ErrOpen},
		{job(api.JobDecide, long), api.ErrOpen},
		{job(api.JobDecide, "some x . "+long), api.ErrLimbs},
		{job(api.JobDecide, "some x . "+endless+"1"), api.ErrNodes},
		{job(api.JobEval, long, 1), api.ErrLimbs},
		{job(api.JobEval, "some x . "+endless+"y", 1), api.ErrNodes},
		{job(api.JobWitness, "some x . "+long), api.ErrLimbs},
		{job(api.JobWitness, "some x . "+endless+"y", 1), api.ErrNodes},
		{job(api.JobWitness, "true"), api.ErrShape},
		{job(api.JobWitness, "all x . x < y", 1), api.ErrShape},
		{job(api.JobWitness, "not some x . x < y", 1), api.ErrShape},
		{job(api.JobWitness, "some x . x < 0 and x > 0"), api.ErrNone},
		{job(api.JobWitness, "some x . x = y and y = 3", 4), api.ErrNone},
	} {
		wants(t, l.j, api.Answer{Code: l.code})
	}
}

// Eval and Witness take a value for each free name, no more and no fewer.
func TestP231Values(t *testing.T) {
	for free, text := range []string{"some x . x < 0", "some x . x < a", "some x . x < a and b < c1 + a"} {
		names := []int{0, 1, 3}[free]
		for given := range 6 {
			values := []int{1, 2, 3, 4, 5}[:given]
			if given == names {
				wants(t, job(api.JobEval, text, values...), alone(job(api.JobEval, text, values...)))
				if a := crew.Do(job(api.JobWitness, text, values...)); a.Code != api.OK || len(a.Values) != 1 {
					t.Errorf("%s of %v: %s", text, values, tell(a))
				}
				continue
			}
			wants(t, job(api.JobEval, text, values...), api.Answer{Code: api.ErrArity})
			wants(t, job(api.JobWitness, text, values...), api.Answer{Code: api.ErrArity})
		}
	}
	// What has no leading some is refused as such, whatever its values.
	wants(t, job(api.JobWitness, "x < y", 1), api.Answer{Code: api.ErrShape})
	// Any number is taken for what it says.
	odd := []api.Int{{Neg: true, Mag: []uint32{0, 0}}, {Mag: []uint32{1, 0}}}
	wants(t, api.Job{Kind: api.JobEval, Text: "x = 0 and y = 1", Values: odd}, api.Answer{Truth: true})
	wants(t, api.Job{Kind: api.JobWitness, Text: "some a b . a = x and b = y", Values: odd}, api.Answer{Values: numbers(0, 1)})
}

// Eliminate and Decide don't look at the values: not at how many there are, nor at what they are.
func TestP231ValuesNotLookedAt(t *testing.T) {
	wide := api.Int{Mag: make([]uint32, api.MaxLimbs+1)}
	wide.Mag[api.MaxLimbs] = 1
	for _, values := range [][]api.Int{nil, {}, numbers(1), numbers(1, 2, 3), {{Neg: true}, {Mag: []uint32{0, 0}}}, {wide, wide}, make([]api.Int, 100000)} {
		wants(t, api.Job{Kind: api.JobEliminate, Text: "some x . 2 * x = y", Values: values}, api.Answer{Text: "2 divides y"})
		wants(t, api.Job{Kind: api.JobEliminate, Text: long, Values: values}, api.Answer{Code: api.ErrLimbs})
		wants(t, api.Job{Kind: api.JobDecide, Text: "some x . 2 * x = 4", Values: values}, api.Answer{Truth: true})
		wants(t, api.Job{Kind: api.JobDecide, Text: "x < 1", Values: values}, api.Answer{Code: api.ErrOpen})
	}
}

// What Eliminate comes to may be no text: it is too long or too deep, though the formula's text was not.
func TestP231NoText(t *testing.T) {
	deep := sum("a", 30) + " < -(" + sum("b", 31) + ")"
	wants(t, job(api.JobEliminate, deep), api.Answer{Code: api.ErrDepth})
	wants(t, job(api.JobEval, deep, make([]int, 61)...), api.Answer{})
	wants(t, job(api.JobEliminate, iffs(8)), api.Answer{Code: api.ErrText})
	// One less can be told.
	j := job(api.JobEliminate, sum("a", 30)+" < -("+sum("b", 29)+")")
	if a := crew.Do(j); a.Code != api.OK || a.Text == "" || tell(a) != tell(alone(j)) {
		t.Errorf("Do(%s): %s", tellJob(j), tell(a))
	}
	j = job(api.JobEliminate, iffs(7))
	if a := crew.Do(j); a.Code != api.OK || a.Text == "" || tell(a) != tell(alone(j)) {
		t.Errorf("Do(%s): %s", tellJob(j), tell(a))
	}
}

// What Eliminate tells is a formula's text again, and holds under the same values.
func TestP231TextsAgain(t *testing.T) {
	text := "some z . x < 2 * z and 2 * z < y or 3 divides x + y"
	a := crew.Do(job(api.JobEliminate, text))
	for x := range 5 {
		for y := range 12 {
			wants(t, job(api.JobEval, a.Text, x-3, y-4), crew.Do(job(api.JobEval, text, x-3, y-4)))
		}
	}
}
