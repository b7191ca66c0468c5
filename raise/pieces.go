package raise

import (
	"riddle/api"
	"riddle/zint"
)

// A row is pieces behind one another, as one tree. What puts the next one there is a field, since the first one stands
// otherwise than those behind it.
type row struct {
	tree api.Tree
	put  func(ahead, piece api.Tree, below bool) api.Tree
}

// add puts a piece behind all others; its sign is that of its number.
func (r *row) add(piece api.Tree, number api.Int) {
	r.tree = r.put(r.tree, piece, zint.Sign(number) < 0)
	r.put = behind
}

// first is a piece with nothing ahead.
func first(_, piece api.Tree, below bool) api.Tree {
	if below {
		return of(api.TreeNeg, piece)
	}
	return piece
}

func behind(ahead, piece api.Tree, below bool) api.Tree {
	if below {
		return of(api.TreeSub, ahead, piece)
	}
	return of(api.TreeAdd, ahead, piece)
}

func of(kind int, kids ...api.Tree) api.Tree {
	return api.Tree{Kind: kind, Kids: kids}
}

// term is the tree of a term that stands as it should.
func (n naming) term(t api.Term) api.Tree {
	r := row{put: first}
	for _, part := range t.Parts {
		r.add(n.times(part), part.C)
	}
	if len(t.Parts) == 0 || zint.Sign(t.K) != 0 {
		r.add(api.Tree{Kind: api.TreeNum, N: zint.Abs(t.K)}, t.K)
	}
	return r.tree
}

// times is a part's piece.
func (n naming) times(part api.Part) api.Tree {
	variable := api.Tree{Kind: api.TreeVar, Name: n.name(part.Var)}
	many := zint.Abs(part.C)
	if zint.Cmp(many, zint.Of(1)) == 0 {
		return variable
	}
	return api.Tree{Kind: api.TreeMul, N: many, Kids: []api.Tree{variable}}
}

// atom is the tree of an atom that stands as it should.
func (n naming) atom(x api.Atom) api.Tree {
	switch x.Kind {
	case api.False:
		return of(api.TreeFalse)
	case api.True:
		return of(api.TreeTrue)
	case api.Less:
		lesser, greater := sides(x.T)
		return of(api.TreeLt, n.term(lesser), n.term(greater))
	case api.Not:
		x.Kind = api.Div
		return of(api.TreeNot, n.atom(x))
	}
	return api.Tree{Kind: api.TreeDivides, N: zint.Norm(x.D), Kids: []api.Tree{n.term(x.T)}}
}

// sides are two terms without a number below 0, of which the second one less the first is the term.
func sides(t api.Term) (lesser, greater api.Term) {
	for _, part := range t.Parts {
		if zint.Sign(part.C) < 0 {
			lesser.Parts = append(lesser.Parts, api.Part{Var: part.Var, C: zint.Neg(part.C)})
		} else {
			greater.Parts = append(greater.Parts, part)
		}
	}
	if zint.Sign(t.K) < 0 {
		lesser.K = zint.Neg(t.K)
	} else {
		greater.K = t.K
	}
	return lesser, greater
}
