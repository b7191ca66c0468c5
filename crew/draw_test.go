package crew_test

import (
	"strconv"
	"testing"

	"riddle/api"
	"riddle/crew"
)

// A dice draws numbers, always the same ones.
type dice struct{ state uint64 }

// roll is one of 0 to n - 1.
func (d *dice) roll(n int) int {
	d.state = d.state*6364136223846793005 + 1442695040888963407
	return int((d.state >> 33) % uint64(n))
}

func (d *dice) name() string { return []string{"x", "y", "z"}[d.roll(3)] }

func (d *dice) number() string { return strconv.Itoa(d.roll(7)) }

func (d *dice) term() string {
	switch d.roll(5) {
	case 0:
		return d.number()
	case 1:
		return "-" + d.name()
	case 2:
		return d.number() + " * " + d.name()
	case 3:
		return d.name() + " + " + d.number()
	}
	return d.name()
}

// formula is the text of one that can be read, of so many levels at most.
func (d *dice) formula(levels int) string {
	kind := d.roll(8)
	if levels == 0 {
		kind = 6 + d.roll(2)
	}
	switch kind {
	case 0:
		return "not (" + d.formula(levels-1) + ")"
	case 1, 2:
		return "(" + d.formula(levels-1) + ") " + []string{"and", "or", "implies", "iff"}[d.roll(4)] + " (" + d.formula(levels-1) + ")"
	case 3, 4:
		return "some " + d.name() + " . " + d.formula(levels-1)
	case 5:
		return "all " + d.name() + " . " + d.formula(levels-1)
	case 6:
		return strconv.Itoa(2+d.roll(4)) + " divides " + d.term()
	}
	return d.term() + " " + []string{"<", "<=", "=", "!=", ">=", ">"}[d.roll(6)] + " " + d.term()
}

// text is one of a formula, now and then with a byte that was changed, or without its end.
func (d *dice) text() string {
	text := d.formula(d.roll(4))
	at := d.roll(len(text))
	switch d.roll(8) {
	case 0:
		return text[:at]
	case 1:
		return text[:at] + string("$(x0 <"[d.roll(6)]) + text[at+1:]
	}
	return text
}

func (d *dice) values() []api.Int {
	var l []int
	for range d.roll(4) {
		l = append(l, d.roll(20)-10)
	}
	return numbers(l...)
}

// jobs are so many, several of them with one text; few are of a kind that is none.
func (d *dice) jobs(many int) []api.Job {
	var texts []string
	for range 1 + many/3 {
		texts = append(texts, d.text())
	}
	var l []api.Job
	for range many {
		kind := kinds[d.roll(4)]
		if d.roll(12) == 0 {
			kind = otherKinds[d.roll(len(otherKinds))]
		}
		l = append(l, api.Job{Kind: kind, Text: texts[d.roll(len(texts))], Values: d.values()})
	}
	return l
}

// Drawn jobs answer as they do step by step.
func TestP231Drawn(t *testing.T) {
	d := &dice{state: 231}
	met := map[api.Errno]int{}
	for range 3000 {
		for _, j := range d.jobs(1) {
			want := alone(j)
			wants(t, j, want)
			met[want.Code]++
		}
	}
	for _, e := range []api.Errno{api.OK, api.ErrArg, api.ErrSyntax, api.ErrEnd, api.ErrArity, api.ErrOpen, api.ErrShape, api.ErrNone} {
		if met[e] < 10 {
			t.Errorf("%v was met %d times", e, met[e])
		}
	}
}

// Drawn lists of jobs answer, whoever works at them, what each job answers alone.
func TestP232Drawn(t *testing.T) {
	d := &dice{state: 232}
	for range 300 {
		jobs := d.jobs(d.roll(api.MaxJobs + 1))
		workers := 1 + d.roll(api.MaxWorkers)
		got, e := crew.Run(jobs, workers)
		if e != api.OK || len(got) != len(jobs) {
			t.Fatalf("Run of %d jobs, %d workers: %d answers, %v", len(jobs), workers, len(got), e)
		}
		for i, j := range jobs {
			if want := alone(j); tell(got[i]) != tell(want) {
				t.Fatalf("%d workers, job %d, %s: %s, want %s", workers, i, tellJob(j), tell(got[i]), tell(want))
			}
		}
	}
}

// Two lists, one behind the other, are answered as the one and the other are.
func TestP233OneBehindTheOther(t *testing.T) {
	d := &dice{state: 233}
	for range 200 {
		jobs := d.jobs(d.roll(api.MaxJobs + 1))
		at := d.roll(len(jobs) + 1)
		all := tellRun(t, jobs, 1+d.roll(api.MaxWorkers))
		first := tellRun(t, jobs[:at], 1+d.roll(api.MaxWorkers))
		second := tellRun(t, jobs[at:], 1+d.roll(api.MaxWorkers))
		if all != first+second {
			t.Fatalf("cut at %d of %d:\n%s\nwant\n%s\n%s", at, len(jobs), all, first, second)
		}
	}
}

// tellRun is all that Run answers to jobs that it may not refuse.
func tellRun(t *testing.T, jobs []api.Job, workers int) string {
	t.Helper()
	l, e := crew.Run(jobs, workers)
	if e != api.OK || len(l) != len(jobs) {
		t.Errorf("Run of %d jobs, %d workers: %d answers, %v", len(jobs), workers, len(l), e)
	}
	text := ""
	for _, a := range l {
		text += tell(a) + "\n"
	}
	return text
}
