package drive

import (
	"riddle/api"
	"riddle/arena"
	"riddle/simp"
)

// A walk goes through a formula, kids ahead, and eliminates all quantifiers on its way.
type walk struct {
	stack
	// kept is what came of each node that was joined or bound.
	kept map[int]int
}

func walked(a *arena.Arena, id int) (int, []api.Step, api.Errno) {
	w := &walk{stack: stack{a: a}, kept: map[int]int{}}
	w.lay(look, id)
	if e := w.run(); e != api.OK {
		return 0, nil, e
	}
	return w.answer()
}

func (w *walk) run() api.Errno {
next:
	for len(w.tasks) > 0 {
		t := w.take()
		var came int
		var e api.Errno
		switch t.state {
		case look:
			w.look(t.id)
			continue next
		case some:
			came, e = w.some(w.since(t)[0], w.variable(t.id))
		case every:
			came, e = w.every(w.since(t)[0], w.variable(t.id))
		default:
			came, e = w.joined(t)
		}
		if e != api.OK {
			return e
		}
		w.kept[t.id] = came
		w.end(t, came)
	}
	return api.OK
}

// look tells what comes of a node, or lays down that its kids come ahead of it.
func (w *walk) look(id int) {
	if came, is := w.kept[id]; is {
		w.tell(came)
		return
	}
	node, _ := w.a.Node(id)
	switch node.Kind {
	case api.And:
		w.lay(both, id)
	case api.Or:
		w.lay(either, id)
	case api.Some:
		w.lay(some, id)
	case api.All:
		w.lay(every, id)
	default:
		w.tell(id)
	}
	w.layLooks(node.Kids)
}

// variable is the one that a quantifier binds.
func (w *walk) variable(id int) int {
	node, _ := w.a.Node(id)
	return node.Var
}

// some is what comes of a quantifier whose kid has come.
func (w *walk) some(id, v int) (int, api.Errno) {
	came, steps, e := narrowed(w.a, id, v)
	w.steps = append(w.steps, steps...)
	return came, e
}

func (w *walk) every(id, v int) (int, api.Errno) {
	opposite, e := simp.Negate(w.a, id)
	if e != api.OK {
		return 0, e
	}
	came, e := w.some(opposite, v)
	if e != api.OK {
		return 0, e
	}
	return simp.Negate(w.a, came)
}
