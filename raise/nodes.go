package raise

import (
	"riddle/api"
	"riddle/arena"
	"riddle/syntax"
)

// A raising makes a node's tree. It stops where there are more trees than may be stored, since a node may hang at more
// places than could be gone to; what came of it at one of them can't be kept for another, where other variables are bound.
type raising struct {
	arena *arena.Arena
	naming
	// trees is how many were made.
	trees int
}

func (r *raising) isOver() bool {
	return r.trees > api.MaxStore
}

// bindsTooLong tells whether a node is a quantifier whose variable can't be called by a name.
func (r *raising) bindsTooLong(id int) bool {
	node, _ := r.arena.Node(id)
	return (node.Kind == api.Some || node.Kind == api.All) && len(r.boundName(node.Var)) > api.MaxName
}

// node is the tree of a node that is there, whose variables all have names.
func (r *raising) node(id int) api.Tree {
	node, _ := r.arena.Node(id)
	switch node.Kind {
	case api.And:
		return r.join(api.TreeAnd, node.Kids)
	case api.Or:
		return r.join(api.TreeOr, node.Kids)
	case api.Some:
		return r.bind(api.TreeSome, node)
	case api.All:
		return r.bind(api.TreeAll, node)
	}
	t := r.atom(api.Atom{Kind: node.Kind, D: node.D, T: node.T})
	r.trees += syntax.Size(t)
	return t
}

// join is a tree of nodes' trees, as far as these may be made.
func (r *raising) join(kind int, ids []int) api.Tree {
	r.trees++
	t := api.Tree{Kind: kind}
	for _, id := range ids {
		if r.isOver() {
			break
		}
		t.Kids = append(t.Kids, r.node(id))
	}
	return t
}

func (r *raising) bind(kind int, node api.Node) api.Tree {
	r.bound[node.Var]++
	t := r.join(kind, node.Kids)
	r.bound[node.Var]--
	t.Names = []string{r.boundName(node.Var)}
	return t
}
