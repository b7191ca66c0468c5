package crew_test

import (
	"math"
	"runtime"
	"slices"
	"strings"
	"sync"
	"testing"
	"time"

	"riddle/api"
	"riddle/crew"
)

func wantsRun(t *testing.T, jobs []api.Job, workers int, want ...api.Answer) {
	t.Helper()
	text := ""
	for _, a := range want {
		text += tell(a) + "\n"
	}
	if got := tellRun(t, jobs, workers); got != text {
		t.Errorf("Run of %d jobs, %d workers:\n%s\nwant\n%s", len(jobs), workers, got, text)
	}
}

func refusesRun(t *testing.T, jobs []api.Job, workers int, want api.Errno) {
	t.Helper()
	if l, e := crew.Run(jobs, workers); e != want || len(l) > 0 {
		t.Errorf("Run of %d jobs, %d workers: %d answers, %v, want %v", len(jobs), workers, len(l), e, want)
	}
}

// mixed are jobs that all answer otherwise.
func mixed(many int) []api.Job {
	var l []api.Job
	for i := range many {
		switch i % 5 {
		case 0:
			l = append(l, job(api.JobWitness, "some x y . x = z + 1 and y = x + x", i))
		case 1:
			l = append(l, job(api.JobEliminate, "some x . 2 * x + "+strings.Repeat("1 + ", i%7)+"y = z and z < "+string(rune('1'+i%9))))
		case 2:
			l = append(l, job(api.JobDecide, strings.Repeat(" ", i)+"x <"))
		case 3:
			l = append(l, job(api.JobEval, "3 divides x and x < 30", i))
		case 4:
			l = append(l, job([]int{9, api.JobDecide, api.JobWitness}[i%3], "some x . x < y"))
		}
	}
	return l
}

func TestP232Examples(t *testing.T) {
	two := []api.Job{job(api.JobDecide, "true"), job(api.JobDecide, "false")}
	wantsRun(t, nil, 1)
	refusesRun(t, two, 0, api.ErrArg)
	refusesRun(t, mixed(api.MaxJobs+1), 0, api.ErrLong)
	wantsRun(t, two, 1, api.Answer{Truth: true}, api.Answer{})
}

func TestP232NoJobs(t *testing.T) {
	for _, none := range [][]api.Job{nil, {}, mixed(3)[:0]} {
		for _, workers := range []int{1, 2, api.MaxWorkers} {
			wantsRun(t, none, workers)
		}
		for _, workers := range []int{0, -1, api.MaxWorkers + 1} {
			refusesRun(t, none, workers, api.ErrArg)
		}
	}
}

// Too many jobs are refused ahead of workers that may not be.
func TestP232Bounds(t *testing.T) {
	jobs := mixed(api.MaxJobs + 1)
	for _, workers := range []int{0, -1, api.MaxWorkers + 1, math.MinInt, math.MaxInt, 1<<32 + 1} {
		for _, many := range []int{0, 1, 2, api.MaxJobs} {
			refusesRun(t, jobs[:many], workers, api.ErrArg)
		}
		refusesRun(t, jobs, workers, api.ErrLong)
	}
	for _, workers := range []int{1, 2, api.MaxWorkers - 1, api.MaxWorkers} {
		if got := tellRun(t, jobs[:api.MaxJobs], workers); strings.Count(got, "\n") != api.MaxJobs {
			t.Errorf("%d workers: %s", workers, got)
		}
		refusesRun(t, jobs, workers, api.ErrLong)
		refusesRun(t, make([]api.Job, 1<<20), workers, api.ErrLong)
	}
}

// The answers come in the order of the jobs, by as many workers as may be, more than there are jobs too.
func TestP232Order(t *testing.T) {
	for _, many := range []int{1, 2, 3, 15, 16, 17, 40, api.MaxJobs} {
		jobs := mixed(many)
		var want []api.Answer
		for _, j := range jobs {
			want = append(want, crew.Do(j))
		}
		for workers := 1; workers <= api.MaxWorkers; workers++ {
			wantsRun(t, jobs, workers, want...)
		}
	}
}

// slow is a job that takes its time.
func slow(at int) api.Job {
	return job(api.JobEliminate, "some z . "+strings.Repeat(" ", at)+"13 divides x + z and 3 divides z + y and x + y < 5 * z")
}

// Jobs that take long stand at the head or at the end, the quick ones are answered ahead of them or behind.
func TestP232SlowAndQuick(t *testing.T) {
	quick := mixed(20)
	for _, jobs := range [][]api.Job{append([]api.Job{slow(0), slow(1)}, quick...), append(slices.Clone(quick), slow(0)), {slow(0), quick[0], slow(0), quick[1]}} {
		var want []api.Answer
		for _, j := range jobs {
			want = append(want, alone(j))
		}
		for _, workers := range []int{1, 2, 3, api.MaxWorkers} {
			wantsRun(t, jobs, workers, want...)
		}
	}
}

// Jobs of one text are answered each by its own kind and its own values; a text that can't be read is refused by each of them,
// but by those whose kind is none.
func TestP232OneText(t *testing.T) {
	text := "some x . 2 * x = y"
	for _, workers := range []int{1, 2, 5, api.MaxWorkers} {
		wantsRun(t, []api.Job{
			job(9, text), job(api.JobWitness, text, 8), job(api.JobEval, text, 8), job(api.JobDecide, text), job(api.JobEliminate, text), job(api.JobEval, text, 7),
			job(api.JobWitness, text, 7), job(api.JobEval, text), job(api.JobWitness, text, -6), job(0, text, 1), job(api.JobEliminate, text, 1, 2),
			job(api.JobWitness, text, 8), job(api.JobEval, text, 1, 2), job(api.JobEliminate, text),
		}, workers,
			api.Answer{Code: api.ErrArg}, api.Answer{Values: numbers(4)}, api.Answer{Truth: true}, api.Answer{Code: api.ErrOpen}, api.Answer{Text: "2 divides y"}, api.Answer{},
			api.Answer{Code: api.ErrNone}, api.Answer{Code: api.ErrArity}, api.Answer{Values: numbers(-3)}, api.Answer{Code: api.ErrArg}, api.Answer{Text: "2 divides y"},
			api.Answer{Values: numbers(4)}, api.Answer{Code: api.ErrArity}, api.Answer{Text: "2 divides y"})
		wrong := api.Answer{Code: api.ErrEnd, At: 10}
		wantsRun(t, []api.Job{
			job(9, "some x . x"), job(api.JobWitness, "some x . x"), job(api.JobEval, "some x . x", 8), job(-9, "some x . x"), job(api.JobDecide, "some x . x"), job(api.JobEliminate, "some x . x"),
		}, workers, api.Answer{Code: api.ErrArg}, wrong, wrong, api.Answer{Code: api.ErrArg}, wrong, wrong)
	}
}

// Texts that differ by little, or in length alone, are texts of their own.
func TestP232TextsOfTheirOwn(t *testing.T) {
	texts := []string{"x < 1", "x < 2", "x < 1 ", "x < 1 and", "X < 1", "y < 1", "x < 1\x00", "", " ", "x < 1"}
	for _, workers := range []int{1, 4, api.MaxWorkers} {
		var jobs []api.Job
		var want []api.Answer
		for _, text := range texts {
			jobs = append(jobs, job(api.JobEliminate, text), job(api.JobEval, text, 1))
			want = append(want, alone(jobs[len(jobs)-2]), alone(jobs[len(jobs)-1]))
		}
		wantsRun(t, jobs, workers, want...)
	}
}

// made is how many pieces of memory a call makes.
func made(call func()) int {
	var before, after runtime.MemStats
	runtime.ReadMemStats(&before)
	call()
	runtime.ReadMemStats(&after)
	return int(after.Mallocs - before.Mallocs)
}

// That a text is read once is told by how much is made for it: all jobs together read it for not much more than one job.
func TestP232ReadOnce(t *testing.T) {
	unreadable := strings.Repeat("x < 1 or ", 400) + "x <"
	one := job(api.JobDecide, unreadable)
	reading := made(func() { crew.Do(one) })
	if reading < 1000 {
		t.Fatalf("read by %d pieces, which are too few to tell", reading)
	}
	for _, workers := range []int{1, 2, api.MaxWorkers} {
		jobs := slices.Repeat([]api.Job{one}, api.MaxJobs)
		for i := range jobs {
			jobs[i].Kind = kinds[i%4]
		}
		if all := made(func() { crew.Run(jobs, workers) }); all > reading*3/2 {
			t.Errorf("%d workers: %d pieces, %d by one job", workers, all, reading)
		}
		// Two texts that take turns are read once each.
		other := job(api.JobDecide, unreadable+" ")
		for i := range jobs {
			if i%2 > 0 {
				jobs[i].Text = other.Text
			}
		}
		if all := made(func() { crew.Run(jobs, workers) }); all > 2*reading*3/2 {
			t.Errorf("%d workers, two texts: %d pieces, %d by one job", workers, all, reading)
		}
	}
	// So it is with a text that can be read: the questions cost what they do, the reading is done once.
	open := job(api.JobDecide, strings.Repeat("x < 1 or ", 400)+"x < 1")
	asking := made(func() { crew.Do(open) })
	if all := made(func() { crew.Run(slices.Repeat([]api.Job{open}, api.MaxJobs), 4) }); all > api.MaxJobs*asking-(api.MaxJobs-2)*reading*2/3 {
		t.Errorf("%d pieces, %d by one job, %d of them to read it", all, asking, reading)
	}
}

// So many goroutines work, no more, and all have ended when Run answers.
func TestP232Goroutines(t *testing.T) {
	var jobs []api.Job
	for i := range api.MaxJobs {
		jobs = append(jobs, slow(i))
	}
	for _, workers := range []int{1, 2, 7, api.MaxWorkers} {
		before := settled()
		ended := make(chan struct{})
		go func() {
			defer close(ended)
			crew.Run(jobs, workers)
		}()
		most := 0
		for open := true; open; {
			select {
			case <-ended:
				open = false
			case <-time.After(100 * time.Microsecond):
				most = max(most, runtime.NumGoroutine()-before-1)
			}
		}
		if most != workers {
			t.Errorf("%d workers: %d goroutines", workers, most)
		}
		wantGoroutines(t, before)
	}
	before := settled()
	crew.Run(nil, api.MaxWorkers)
	crew.Run(jobs[:1], api.MaxWorkers)
	crew.Run(jobs, 0)
	wantGoroutines(t, before)
}

// settled is how many goroutines there are, when those of earlier tests have gone.
func settled() int {
	for was := -1; ; {
		now := runtime.NumGoroutine()
		if now == was {
			return now
		}
		was = now
		time.Sleep(20 * time.Millisecond)
	}
}

// wantGoroutines waits for those that have said that they are done, and are about to go.
func wantGoroutines(t *testing.T, want int) {
	t.Helper()
	for range 1000 {
		if runtime.NumGoroutine() <= want {
			return
		}
		time.Sleep(time.Millisecond)
	}
	t.Errorf("%d goroutines, %d ahead", runtime.NumGoroutine(), want)
}

// What Run answers hangs neither on workers nor on who was quicker.
func TestP233Again(t *testing.T) {
	d := &dice{state: 234}
	for range 30 {
		jobs := append(d.jobs(20), slow(d.roll(3)))
		want := tellRun(t, jobs, 1)
		for _, workers := range []int{1, 2, 3, api.MaxWorkers, api.MaxWorkers, api.MaxWorkers} {
			if got := tellRun(t, jobs, workers); got != want {
				t.Fatalf("%d workers:\n%s\nwant\n%s", workers, got, want)
			}
		}
	}
}

// Several crews work at one time, at the same jobs too.
func TestR4(t *testing.T) {
	d := &dice{state: 235}
	shared := append(d.jobs(30), mixed(20)...)
	want := tellRun(t, shared, 1)
	var crews sync.WaitGroup
	for own := range 8 {
		crews.Go(func() {
			mine := (&dice{state: uint64(own)}).jobs(20)
			wanted := ""
			for _, j := range mine {
				wanted += tell(alone(j)) + "\n"
			}
			for i := range 10 {
				if got := tellRun(t, shared, 1+(own+i)%api.MaxWorkers); got != want {
					t.Errorf("crew %d:\n%s\nwant\n%s", own, got, want)
				}
				if got := tellRun(t, mine, 1+(own*i)%api.MaxWorkers); got != wanted {
					t.Errorf("crew %d, its own:\n%s\nwant\n%s", own, got, wanted)
				}
			}
		})
	}
	crews.Wait()
}
