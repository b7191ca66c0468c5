package drive

import (
	"slices"

	"riddle/api"
	"riddle/arena"
	"riddle/elim"
	"riddle/simp"
)

// A narrowing eliminates a variable from a plain formula, within as little of it as may be.
type narrowing struct {
	stack
	v int
	// free tells of each node of the formula whether v is free there.
	free []bool
	// idle is what came of nodes without a step. Nothing is made or spent for these if they come again; so they needn't,
	// and there may be more ways down to them than could be gone. Others are ended by the meter.
	idle map[int]int
}

func narrowed(a *arena.Arena, id, v int) (int, []api.Step, api.Errno) {
	n := &narrowing{stack: stack{a: a}, v: v, free: freeIn(a, id, v), idle: map[int]int{}}
	n.lay(look, id)
	if e := n.run(); e != api.OK {
		return 0, nil, e
	}
	return n.answer()
}

// freeIn tells of each node of a plain formula, by its number, whether a variable is free there.
func freeIn(a *arena.Arena, id, v int) []bool {
	free := make([]bool, id+1)
	// Kids have lesser numbers: they come ahead.
	for _, other := range a.Reach(id) {
		node, _ := a.Node(other)
		free[other] = isIn(node, v) || slices.ContainsFunc(node.Kids, func(kid int) bool { return free[kid] })
	}
	return free
}

// isIn tells whether a variable is in the term of an atom.
func isIn(node api.Node, v int) bool {
	return slices.ContainsFunc(node.T.Parts, func(part api.Part) bool { return part.Var == v })
}

func (n *narrowing) run() api.Errno {
next:
	for len(n.tasks) > 0 {
		t := n.take()
		if t.state == look {
			if e := n.look(t.id); e != api.OK {
				return e
			}
			continue next
		}
		came, e := n.joined(t)
		if e != api.OK {
			return e
		}
		if len(n.steps) == t.steps {
			n.idle[t.id] = came
		}
		n.end(t, came)
	}
	return api.OK
}

// look tells what comes of a node, or lays down what is to be done with its parts.
func (n *narrowing) look(id int) api.Errno {
	if came, is := n.idle[id]; is {
		n.tell(came)
		return api.OK
	}
	node, _ := n.a.Node(id)
	with, without := n.parted(node.Kids)
	switch {
	case len(with) == 0 && !isIn(node, n.v):
		n.tell(id)
	case node.Kind == api.Or:
		n.lay(either, id)
		n.tell(without...)
		n.layLooks(with)
	case len(without) > 0:
		narrow, e := simp.And(n.a, with...)
		if e != api.OK {
			return e
		}
		n.lay(both, id)
		n.tell(without...)
		n.lay(look, narrow)
	default:
		return n.eliminate(id)
	}
	return api.OK
}

// parted are the kids in which the variable is free, and the others. A node that is joined of several of the formula's has
// no other kids than these have, so that all are known.
func (n *narrowing) parted(kids []int) (with, without []int) {
	for _, kid := range kids {
		if n.free[kid] {
			with = append(with, kid)
		} else {
			without = append(without, kid)
		}
	}
	return with, without
}

func (n *narrowing) eliminate(id int) api.Errno {
	came, step, e := elim.Some(n.a, id, n.v)
	if e != api.OK {
		return e
	}
	n.steps = append(n.steps, step)
	n.tell(came)
	return api.OK
}
