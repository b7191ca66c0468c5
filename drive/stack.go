package drive

import (
	"slices"

	"riddle/api"
	"riddle/arena"
	"riddle/simp"
)

// The states of a task.
const (
	// What the node is made of is still to be looked at.
	look = iota
	// All that it is made of has come: it is to be joined, or a variable of it is to be eliminated.
	both
	either
	some
	every
)

// A task is what is still to be done with a node.
type task struct {
	state, id int
	// came and steps are how many there were when the task was laid down. What has come since is what it works with.
	came, steps int
}

// A stack has the tasks that are still to be done, the next one last, and what has come of others. It stands in the place of
// calls within calls, so that formulas may be nested as deep as they like.
type stack struct {
	a     *arena.Arena
	tasks []task
	came  []int
	steps []api.Step
}

func (s *stack) lay(state, id int) {
	s.tasks = append(s.tasks, task{state, id, len(s.came), len(s.steps)})
}

// layLooks lays down that several nodes are to be looked at, the first of them next.
func (s *stack) layLooks(ids []int) {
	for _, id := range slices.Backward(ids) {
		s.lay(look, id)
	}
}

func (s *stack) take() task {
	last := len(s.tasks) - 1
	t := s.tasks[last]
	s.tasks = s.tasks[:last]
	return t
}

// tell adds to what has come.
func (s *stack) tell(ids ...int) {
	s.came = append(s.came, ids...)
}

// since is what has come since a task was laid down.
func (s *stack) since(t task) []int {
	return s.came[t.came:]
}

// end puts what came of a task in the place of what it was made of.
func (s *stack) end(t task, came int) {
	s.came = append(s.came[:t.came], came)
}

// joined is what comes of a task that joins.
func (s *stack) joined(t task) (int, api.Errno) {
	if t.state == both {
		return simp.And(s.a, s.since(t)...)
	}
	return simp.Or(s.a, s.since(t)...)
}

// answer is what is left when all tasks are done.
func (s *stack) answer() (int, []api.Step, api.Errno) {
	return s.came[0], s.steps, api.OK
}
