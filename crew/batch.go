package crew

import (
	"sync"
	"sync/atomic"

	"riddle/api"
	"riddle/syntax"
)

// A batch is jobs that several workers answer. Each place is taken by one of them, so that no two write at the same one.
type batch struct {
	jobs    []api.Job
	texts   []*reading
	answers []api.Answer
	next    atomic.Int64
}

func newBatch(jobs []api.Job) *batch {
	return &batch{jobs: jobs, texts: readings(jobs), answers: make([]api.Answer, len(jobs))}
}

// work takes job after job, until none is left.
func (b *batch) work() {
	for i := b.take(); i < len(b.jobs); i = b.take() {
		b.answers[i] = answered(b.jobs[i], b.texts[i])
	}
}

// take is the place of a job that nobody has taken so far; from the number of jobs on there is none.
func (b *batch) take() int { return int(b.next.Add(1) - 1) }

// A reading is a text that is read for the first one who needs it; the others wait for that, and take what came of it.
type reading struct {
	text  string
	once  sync.Once
	tree  api.Tree
	wrong api.Mishap
}

func (r *reading) formula() (api.Tree, api.Mishap) {
	r.once.Do(func() { r.tree, r.wrong = syntax.Parse(r.text) })
	return r.tree, r.wrong
}

// readings are those of the jobs' texts, in their order; jobs of one text have the same one.
func readings(jobs []api.Job) []*reading {
	first := map[string]int{}
	all := make([]*reading, len(jobs))
	for i, j := range jobs {
		at, is := first[j.Text]
		if is {
			all[i] = all[at]
			continue
		}
		first[j.Text] = i
		all[i] = &reading{text: j.Text}
	}
	return all
}
