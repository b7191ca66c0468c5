package ground

import (
	"slices"

	"riddle/api"
	"riddle/arena"
	"riddle/term"
	"riddle/zint"
)

// A formula is read out of its arena once, for however many rows.
type formula struct {
	// ids and nodes stand by rising numbers: a node's kids come ahead of it, the formula itself comes last.
	ids   []int
	nodes []api.Node
	free  []int
}

func read(a *arena.Arena, id int) formula {
	f := formula{ids: a.Reach(id), free: a.Free(id)}
	for _, reached := range f.ids {
		node, _ := a.Node(reached)
		f.nodes = append(f.nodes, node)
	}
	return f
}

// A state is what is known of a formula under the values of one row.
type state struct {
	// values are those of the formula's own variables, to be read alone: their numbers are those that were handed in.
	values map[int]api.Int
	// truths tell by their numbers what the nodes say that were looked at.
	truths []bool
}

// under takes of each variable the first value. A row may have many more than the formula asks for.
func (f formula) under(row []api.Value) state {
	values := map[int]api.Int{}
	for _, value := range row {
		if _, is := slices.BinarySearch(f.free, value.Var); !is {
			continue
		}
		if _, is := values[value.Var]; !is {
			values[value.Var] = value.N
		}
	}
	last := f.ids[len(f.ids)-1]
	return state{values, make([]bool, last+1)}
}

// says tells whether a node is true, when it is known of its kids.
func (s state) says(n api.Node) (bool, api.Errno) {
	switch n.Kind {
	case api.And:
		return !slices.ContainsFunc(n.Kids, s.isFalse), api.OK
	case api.Or:
		return slices.ContainsFunc(n.Kids, s.isTrue), api.OK
	case api.Less, api.Div, api.Not:
		return s.holds(n)
	}
	return n.Kind == api.True, api.OK
}

func (s state) isTrue(id int) bool {
	return s.truths[id]
}

func (s state) isFalse(id int) bool {
	return !s.truths[id]
}

// holds tells it of a comparison or a divisibility. These stand as they should in a node: atom.Holds would bring each of
// them to its form anew, for every row.
func (s state) holds(n api.Node) (bool, api.Errno) {
	value, e := term.Eval(n.T, s.valuesOf(n.T))
	if e != api.OK {
		return false, e
	}
	if n.Kind == api.Less {
		return zint.Sign(value) > 0, api.OK
	}
	_, left, _ := zint.DivMod(value, n.D)
	return (zint.Sign(left) == 0) == (n.Kind == api.Div), api.OK
}

// valuesOf are those of a term's variables, as far as there are any. With the whole row the time would grow with the
// atoms and the variables together.
func (s state) valuesOf(t api.Term) []api.Value {
	var vals []api.Value
	for _, part := range t.Parts {
		if n, is := s.values[part.Var]; is {
			vals = append(vals, api.Value{Var: part.Var, N: n})
		}
	}
	return vals
}
