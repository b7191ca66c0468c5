package unit

import (
	"riddle/api"
	"riddle/arena"
	"riddle/term"
	"riddle/zint"
)

// termsOf are those of a formula's nodes, each node's once, at however many places it hangs. Of what is no atom it is the
// term 0, which has no variable.
func termsOf(a *arena.Arena, id int) []api.Term {
	var found []api.Term
	for _, reached := range a.Reach(id) {
		node, _ := a.Node(reached)
		found = append(found, node.T)
	}
	return found
}

// coefficients are a variable's in those of the terms that have it.
func coefficients(v int, terms ...api.Term) []api.Int {
	var found []api.Int
	for _, t := range terms {
		if c := term.Coef(t, v); zint.Sign(c) != 0 {
			found = append(found, c)
		}
	}
	return found
}

// A multiple is l times the variable v, in whose place v itself is to stand.
type multiple struct {
	v int
	l api.Int
}

// bring is an atom that is true of l times a value just where x is true of that value. The D of a Less is 0, and stays 0.
func (m multiple) bring(x api.Atom) api.Atom {
	c := term.Coef(x.T, m.v)
	sign := zint.Sign(c)
	if sign == 0 {
		return x
	}
	// Nothing is left over: each coefficient divides l.
	times, _, _ := zint.DivMod(m.l, zint.Abs(c))
	itself := term.Scale(zint.Of(int64(sign)), term.Var(m.v))
	others := term.Scale(times, term.Without(x.T, m.v))
	return api.Atom{Kind: x.Kind, D: zint.Mul(times, x.D), T: term.Add(others, itself)}
}
