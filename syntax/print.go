package syntax

import (
	"strings"

	"riddle/api"
	"riddle/zint"
)

// The words that no kind has.
const (
	opening = "("
	closing = ")"
	dot     = "."
)

// The grammar's rules as places for a kid: those of formulas and those of terms, the widest first. What is made by a rule
// fits in at its own place, and at the wider ones.
const (
	asFormula = iota
	asImplied
	asOred
	asAnded
	asNotted
	asPrimary
	asTotal
	asOperand
)

// A limb has over 9 decimal digits: a number of more limbs fits in no text, and to tell its digits might take long.
const mostLimbs = api.MaxText/9 + 1

// A printer writes words with a blank ahead of each, unless it is glued to the one ahead. It is over, once there is more
// than a text may have.
type printer struct {
	text  strings.Builder
	glued bool
	over  bool
}

func (p *printer) word(s string) {
	if p.over {
		return
	}
	if p.text.Len() > 0 && !p.glued {
		p.text.WriteByte(' ')
	}
	p.text.WriteString(s)
	p.glued = false
	p.over = p.text.Len() > api.MaxText
}

func (p *printer) number(n api.Int) {
	if zint.Limbs(n) > mostLimbs {
		p.over = true
		return
	}
	p.word(zint.Text(n))
}

// part writes a tree at a place. Last: no word stands behind it up to the end, or up to the next `)`.
func (p *printer) part(t api.Tree, place int, last bool) {
	switch {
	case p.over:
	case placeOf(t.Kind) < place || isQuantifier(t.Kind) && !last:
		p.word(opening)
		p.glued = true
		p.bare(t, true)
		p.glued = true
		p.word(closing)
	default:
		p.bare(t, last)
	}
}

// bare writes a tree without parentheses of its own.
func (p *printer) bare(t api.Tree, last bool) {
	switch t.Kind {
	case api.TreeNum:
		p.number(t.N)
	case api.TreeVar:
		p.word(t.Name)
	case api.TreeTrue, api.TreeFalse:
		p.word(wordOf[t.Kind])
	case api.TreeMul, api.TreeDivides:
		p.number(t.N)
		p.ahead(t, last)
	case api.TreeNeg, api.TreeNot, api.TreeSome, api.TreeAll:
		p.ahead(t, last)
	default:
		p.between(t, last)
	}
}

// ahead writes a kind's word, its names, and its one kid.
func (p *printer) ahead(t api.Tree, last bool) {
	p.word(wordOf[t.Kind])
	p.glued = t.Kind == api.TreeNeg
	for _, name := range t.Names {
		p.word(name)
	}
	if isQuantifier(t.Kind) {
		p.word(dot)
	}
	p.part(t.Kids[0], placeIn(t.Kind, 0), last)
}

// between writes kids, and a kind's word between each two.
func (p *printer) between(t api.Tree, last bool) {
	for i, kid := range t.Kids {
		if i > 0 {
			p.word(wordOf[t.Kind])
		}
		p.part(kid, placeIn(t.Kind, i), last && i == len(t.Kids)-1)
	}
}

// placeOf is the narrowest place at which a kind fits in.
func placeOf(kind int) int {
	switch kind {
	case api.TreeIff:
		return asFormula
	case api.TreeImplies:
		return asImplied
	case api.TreeOr:
		return asOred
	case api.TreeAnd:
		return asAnded
	case api.TreeNot, api.TreeSome, api.TreeAll:
		return asNotted
	case api.TreeAdd, api.TreeSub:
		return asTotal
	case api.TreeNum, api.TreeVar, api.TreeNeg, api.TreeMul:
		return asOperand
	}
	return asPrimary
}

// placeIn is the widest place that a kind has for its i-th kid. `iff`, `+` and `-` go to the left: there they bear one
// another; `implies` goes to the right.
func placeIn(kind, i int) int {
	switch kind {
	case api.TreeIff:
		if i == 0 {
			return asFormula
		}
		return asImplied
	case api.TreeImplies:
		if i == 0 {
			return asOred
		}
		return asImplied
	case api.TreeOr:
		return asAnded
	case api.TreeAnd, api.TreeNot:
		return asNotted
	case api.TreeSome, api.TreeAll:
		return asFormula
	case api.TreeAdd, api.TreeSub:
		if i == 0 {
			return asTotal
		}
		return asOperand
	case api.TreeNeg, api.TreeMul:
		return asOperand
	}
	return asTotal
}
