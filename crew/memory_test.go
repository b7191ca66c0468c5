package crew_test

import (
	"slices"
	"strconv"
	"strings"
	"testing"
	"unsafe"

	"riddle/api"
	"riddle/crew"
)

const spare = 3

// roomy are jobs in memory of their own, with marked spare room behind each list.
func roomy(jobs []api.Job) []api.Job {
	jobs = slices.Clone(jobs)
	for i, j := range jobs {
		values := slices.Clone(j.Values)
		for k, n := range values {
			values[k].Mag = append(slices.Clone(n.Mag), slices.Repeat([]uint32{0xabcd}, spare)...)[:len(n.Mag)]
		}
		values = append(values, slices.Repeat(numbers(77), spare)...)[:len(values)]
		jobs[i] = api.Job{Kind: j.Kind, Text: strings.Clone(j.Text), Values: values}
	}
	return append(jobs, slices.Repeat([]api.Job{job(api.JobDecide, "spare")}, spare)...)[:len(jobs)]
}

// tellRoom are jobs with the spare room of all lists.
func tellRoom(jobs []api.Job) string {
	text := ""
	for _, j := range jobs[:cap(jobs)] {
		text += strconv.Itoa(j.Kind) + "'" + j.Text + "'"
		for _, n := range j.Values[:cap(j.Values)] {
			text += " " + strconv.FormatBool(n.Neg)
			for _, limb := range n.Mag[:cap(n.Mag)] {
				text += "'" + strconv.FormatUint(uint64(limb), 10)
			}
		}
		text += "\n"
	}
	return text
}

// scribble overwrites all lists of an answer, spare room too.
func scribble(values []api.Int) {
	for i := range values[:cap(values)] {
		n := &values[:cap(values)][i]
		for k := range n.Mag[:cap(n.Mag)] {
			n.Mag[:cap(n.Mag)][k] = 0x5555
		}
		*n = api.Int{Neg: true, Mag: []uint32{0x6666}}
	}
}

// The places of memory.

func textPlaces(s string) []any {
	var places []any
	for i := range len(s) {
		places = append(places, (*byte)(unsafe.Add(unsafe.Pointer(unsafe.StringData(s)), i)))
	}
	return places
}

func valuePlaces(values []api.Int) []any {
	var places []any
	for i := range values[:cap(values)] {
		n := &values[:cap(values)][i]
		places = append(places, n)
		for k := range n.Mag[:cap(n.Mag)] {
			places = append(places, &n.Mag[:cap(n.Mag)][k])
		}
	}
	return places
}

// lively are jobs that have long answers, several of one text and several all alike.
func lively() []api.Job {
	wide := "some x y z . x = 18446744073709551617 + a and y = -340282366920938463463374607431768211457 and z = a"
	plain := "some x . 3 * x = y and y < z + 4294967297"
	return []api.Job{
		job(api.JobWitness, wide, 5), job(api.JobWitness, wide, 5), job(api.JobWitness, wide, -7), job(api.JobWitness, "some x . x = a", 1<<40), job(api.JobWitness, "some x . x = a", 1<<40),
		job(api.JobEliminate, plain), job(api.JobEliminate, plain), job(api.JobEval, plain, 3, 4), job(api.JobEliminate, "x<1"), job(api.JobEliminate, "x < 1"), job(api.JobEliminate, "true"), job(api.JobEliminate, "true"),
		job(api.JobEval, "x < y", 1<<40, 1<<41), job(api.JobDecide, wide), job(api.JobDecide, "x <"), job(api.JobDecide, "x <"), job(9, wide, 1), job(api.JobEval, "x < y", 1, 2, 3),
	}
}

// What is handed in stays as it is, spare room too.
func TestR3HandedIn(t *testing.T) {
	d := &dice{state: 236}
	for range 100 {
		jobs := roomy(append(d.jobs(20), lively()...))
		was := tellRoom(jobs)
		crew.Run(jobs, 1+d.roll(api.MaxWorkers))
		for _, j := range jobs {
			crew.Do(j)
		}
		crew.Run(jobs, 0)
		if got := tellRoom(jobs); got != was {
			t.Fatalf("jobs were changed:\n%s\nwant\n%s", got, was)
		}
	}
	many := roomy(mixed(api.MaxJobs + 1))
	was := tellRoom(many)
	crew.Run(many, 1)
	if tellRoom(many) != was {
		t.Error("too many jobs were changed")
	}
}

// Jobs may share their values, and one list may be several jobs' own.
func TestR3SharedValues(t *testing.T) {
	values := numbers(3, 4, 5)
	var jobs []api.Job
	for i := range 12 {
		jobs = append(jobs, api.Job{Kind: kinds[i%4], Text: "some w . w = x + y", Values: values[i%2 : i%2+2]}, api.Job{Kind: kinds[i%4], Text: "some w . w = x", Values: values[:1]})
	}
	var want []api.Answer
	for _, j := range jobs {
		want = append(want, alone(j))
	}
	wantsRun(t, jobs, api.MaxWorkers, want...)
}

// What is done with an answer changes no other one, and none that comes later.
func TestR3Answers(t *testing.T) {
	jobs := lively()
	for _, workers := range []int{1, 3, api.MaxWorkers} {
		want := tellRun(t, jobs, 1)
		was := tellRoom(jobs)
		for spoilt := range jobs {
			l, _ := crew.Run(jobs, workers)
			again, _ := crew.Run(jobs, workers)
			scribble(l[spoilt].Values)
			l[spoilt] = again[spoilt]
			text := ""
			for _, a := range l {
				text += tell(a) + "\n"
			}
			if text != want || tellRoom(jobs) != was {
				t.Fatalf("%d workers, answer %d was spoilt:\n%s\nwant\n%s", workers, spoilt, text, want)
			}
			scribble(l[spoilt].Values)
			for i := range l[:cap(l)] {
				l[:cap(l)][i] = api.Answer{Code: 99, Text: "spoilt"}
			}
			if got := tellRun(t, jobs, workers); got != want {
				t.Fatalf("%d workers, later:\n%s\nwant\n%s", workers, got, want)
			}
		}
	}
	for _, j := range jobs {
		one, two := crew.Do(j), crew.Do(j)
		scribble(one.Values)
		if tell(two) != tell(alone(j)) || tell(crew.Do(j)) != tell(two) {
			t.Errorf("Do(%s): %s", tellJob(j), tell(two))
		}
	}
}

// Answers are new memory: they share none with the jobs, nor with one another.
func TestR3NewMemory(t *testing.T) {
	d := &dice{state: 237}
	for range 100 {
		jobs := roomy(append(d.jobs(20), lively()...))
		seen := map[any]struct{}{}
		for _, j := range jobs {
			for _, place := range append(textPlaces(j.Text), valuePlaces(j.Values)...) {
				seen[place] = struct{}{}
			}
		}
		l, _ := crew.Run(jobs, 1+d.roll(api.MaxWorkers))
		for _, j := range jobs {
			l = append(l, crew.Do(j))
		}
		for i, a := range l {
			for _, place := range append(textPlaces(a.Text), valuePlaces(a.Values)...) {
				if _, is := seen[place]; is {
					t.Fatalf("answer %d, %s, shares memory", i, tell(a))
				}
				seen[place] = struct{}{}
			}
		}
	}
}
