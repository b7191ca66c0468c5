package syntax

import (
	"math"

	"riddle/api"
	"riddle/lex"
	"riddle/zint"
)

// What a tree is by its kind.
const (
	neither = iota
	term
	formula
)

// wordOf is what a text has for a kind: ahead of the kid of those with one, between the kids of the others.
var wordOf = [...]string{
	api.TreeNeg: "-", api.TreeAdd: "+", api.TreeSub: "-", api.TreeMul: "*",
	api.TreeTrue: "true", api.TreeFalse: "false",
	api.TreeLt: "<", api.TreeLe: "<=", api.TreeEq: "=", api.TreeNe: "!=", api.TreeGe: ">=", api.TreeGt: ">",
	api.TreeDivides: "divides", api.TreeNot: "not", api.TreeAnd: "and", api.TreeOr: "or",
	api.TreeImplies: "implies", api.TreeIff: "iff", api.TreeSome: "some", api.TreeAll: "all",
}

// A shape is what a kind has: how many kids, and which, and which of the other fields.
type shape struct {
	is, kids            int
	few, many           int
	number, name, names bool
}

// shapeOf is the row of a kind in the table of trees.
func shapeOf(kind int) shape {
	switch kind {
	case api.TreeNum:
		return shape{is: term, number: true}
	case api.TreeVar:
		return shape{is: term, name: true}
	case api.TreeNeg:
		return shape{is: term, kids: term, few: 1, many: 1}
	case api.TreeAdd, api.TreeSub:
		return shape{is: term, kids: term, few: 2, many: 2}
	case api.TreeMul:
		return shape{is: term, number: true, kids: term, few: 1, many: 1}
	case api.TreeTrue, api.TreeFalse:
		return shape{is: formula}
	case api.TreeLt, api.TreeLe, api.TreeEq, api.TreeNe, api.TreeGe, api.TreeGt:
		return shape{is: formula, kids: term, few: 2, many: 2}
	case api.TreeDivides:
		return shape{is: formula, number: true, kids: term, few: 1, many: 1}
	case api.TreeNot:
		return shape{is: formula, kids: formula, few: 1, many: 1}
	case api.TreeAnd, api.TreeOr:
		return shape{is: formula, kids: formula, few: 2, many: math.MaxInt}
	case api.TreeImplies, api.TreeIff:
		return shape{is: formula, kids: formula, few: 2, many: 2}
	case api.TreeSome, api.TreeAll:
		return shape{is: formula, names: true, kids: formula, few: 1, many: 1}
	}
	return shape{is: neither}
}

// stands tells whether a tree itself is as the table says, the kids by their kinds alone. That a divisor is not 0 is
// asked elsewhere: it is another error.
func stands(t api.Tree) bool {
	s := shapeOf(t.Kind)
	return s.is != neither && s.hasNumber(t.N) && s.hasName(t.Name) && s.hasNames(t.Names) && s.hasKids(t.Kids)
}

func (s shape) hasNumber(n api.Int) bool {
	if !zint.Valid(n) {
		return false
	}
	side := zint.Sign(n)
	return side == 0 || side > 0 && s.number
}

func (s shape) hasName(name string) bool {
	if s.name {
		return lex.IsName(name)
	}
	return name == ""
}

func (s shape) hasNames(names []string) bool {
	for _, name := range names {
		if !lex.IsName(name) {
			return false
		}
	}
	return s.names == (len(names) > 0)
}

func (s shape) hasKids(kids []api.Tree) bool {
	for _, kid := range kids {
		if shapeOf(kid.Kind).is != s.kids {
			return false
		}
	}
	return s.few <= len(kids) && len(kids) <= s.many
}

func isQuantifier(kind int) bool {
	return kind == api.TreeSome || kind == api.TreeAll
}
