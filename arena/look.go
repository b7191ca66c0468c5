package arena

import (
	"slices"

	"riddle/api"
)

// Node is what a node is.
func (a *Arena) Node(id int) (api.Node, bool) {
	if a.lacks(id) {
		return api.Node{}, false
	}
	return copied(a.nodes[id]), true
}

// Free are a node's free variables.
func (a *Arena) Free(id int) []int {
	reach := a.Reach(id)
	bound := a.bound(reach)
	open := a.open(reach, bound)
	var free []int
	for _, n := range reach {
		for _, part := range a.nodes[n].T.Parts {
			if at, is := slices.BinarySearch(bound, part.Var); !is || open.has(at) {
				free = append(free, part.Var)
			}
		}
	}
	return rising(free)
}

// Reach are the nodes that it is made of.
func (a *Arena) Reach(id int) []int {
	if a.lacks(id) {
		return nil
	}
	reached := make([]bool, id+1)
	reached[id] = true
	var reach []int
	// Kids have lesser numbers: all parents of a node come ahead of it.
	for n := id; n >= 0; n-- {
		if !reached[n] {
			continue
		}
		reach = append(reach, n)
		for _, kid := range a.nodes[n].Kids {
			reached[kid] = true
		}
	}
	slices.Reverse(reach)
	return reach
}

// Plain tells whether no quantifier is among them.
func (a *Arena) Plain(id int) bool {
	return !a.lacks(id) && !slices.ContainsFunc(a.Reach(id), a.isQuantifier)
}

func (a *Arena) isQuantifier(id int) bool {
	return binds(a.nodes[id].Kind)
}

// bound are the variables that some quantifier among the nodes binds, rising.
func (a *Arena) bound(reach []int) []int {
	var vars []int
	for _, n := range reach {
		if a.isQuantifier(n) {
			vars = append(vars, a.nodes[n].Var)
		}
	}
	return rising(vars)
}

// open are those of the bound variables, by their places, that are free all the same in the last node of reach: in
// another place than where they are bound. They are looked for once in each node, however many parents it has.
func (a *Arena) open(reach, bound []int) places {
	if len(bound) == 0 {
		return nil
	}
	opens := make([]places, reach[len(reach)-1]+1)
	for _, n := range reach {
		open := newPlaces(len(bound))
		for _, part := range a.nodes[n].T.Parts {
			if at, is := slices.BinarySearch(bound, part.Var); is {
				open.add(at)
			}
		}
		for _, kid := range a.nodes[n].Kids {
			open.join(opens[kid])
		}
		if at, is := slices.BinarySearch(bound, a.nodes[n].Var); is && a.isQuantifier(n) {
			open.drop(at)
		}
		opens[n] = open
	}
	return opens[len(opens)-1]
}
