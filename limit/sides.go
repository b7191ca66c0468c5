package limit

import (
	"riddle/api"
	"riddle/term"
	"riddle/zint"
)

// The sides from which a bound holds a variable; a row of bounds for each.
const (
	below = iota
	above
	sides
)

// boundOf is the bound that 0 < t tells of a variable of t, and its side. With a greater coefficient the bound would be a
// quotient, which is no term.
func boundOf(t api.Term, v int) (side int, bound api.Term, e api.Errno) {
	c := term.Coef(t, v)
	if zint.Cmp(zint.Abs(c), zint.Of(1)) != 0 {
		return 0, api.Term{}, api.ErrArg
	}
	others := term.Without(t, v)
	if zint.Sign(c) > 0 {
		return below, term.Scale(zint.Of(-1), others), api.OK
	}
	return above, others, api.OK
}

// A distance is where the variable v is beyond all bounds: a Less with v hangs on nothing else there, and is a constant,
// of one kind if its term grows with v, of the other one if it falls.
type distance struct {
	v                int
	growing, falling int
}

// look is an atom as it is there.
func (d distance) look(x api.Atom) api.Atom {
	if x.Kind != api.Less {
		return x
	}
	switch sign := zint.Sign(term.Coef(x.T, d.v)); {
	case sign > 0:
		return api.Atom{Kind: d.growing}
	case sign < 0:
		return api.Atom{Kind: d.falling}
	}
	return x
}
