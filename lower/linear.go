package lower

import (
	"riddle/api"
	"riddle/term"
	"riddle/zint"
)

// values is the call that tells a term's value as a linear term. What came of a term at its place is kept, since it may
// hang at more places than could be gone to.
func values() func(p place) api.Term {
	kept := map[place]api.Term{}
	var value func(p place) api.Term
	value = func(p place) api.Term {
		if came, is := kept[p]; is {
			return came
		}
		var kids []api.Term
		for i := range p.tree.Kids {
			kids = append(kids, value(place{&p.tree.Kids[i], p.scope, p.next}))
		}
		var came api.Term
		switch p.tree.Kind {
		case api.TreeNum:
			came = term.Const(p.tree.N)
		case api.TreeVar:
			came = term.Var(p.scope.variable(p.tree.Name))
		case api.TreeNeg:
			came = opposite(kids[0])
		case api.TreeAdd:
			came = term.Add(kids[0], kids[1])
		case api.TreeSub:
			came = term.Sub(kids[0], kids[1])
		case api.TreeMul:
			came = term.Scale(p.tree.N, kids[0])
		}
		kept[p] = came
		return came
	}
	return value
}

// gap is how far the second one of two terms is above the first.
func gap(terms []api.Term) api.Term {
	return term.Sub(terms[1], terms[0])
}

func opposite(t api.Term) api.Term {
	return term.Scale(zint.Of(-1), t)
}

func more(t api.Term) api.Term {
	return term.Add(t, term.Const(zint.Of(1)))
}
