package simp

import (
	"cmp"
	"slices"

	"riddle/api"
	"riddle/zint"
)

// staying are the Less, of those with the same parts one alone; those with opposite parts stand side by side.
func (l law) staying(lesses []member) []member {
	slices.SortFunc(lesses, func(x, y member) int {
		if order := compareLines(x, y); order != 0 {
			return order
		}
		if falls(x) != falls(y) {
			return zint.Cmp(x.node.T.Parts[0].C, y.node.T.Parts[0].C)
		}
		return l.order(x.node.T.K, y.node.T.K)
	})
	return slices.CompactFunc(lesses, func(x, y member) bool { return falls(x) == falls(y) && compareLines(x, y) == 0 })
}

// clash tells whether two of the Less that stay come to the ruling constant. Of 0 < s + k and 0 < -s + l both can't be,
// if k + l is 1 or less; one of them always is, if it is 1 or more.
func (l law) clash(staying []member) bool {
	one := zint.Of(1)
	return hasPair(staying, compareLines, func(x, y member) bool {
		return l.order(zint.Add(x.node.T.K, y.node.T.K), one) <= 0
	})
}

// areOpposed tells whether a Div and a Not of the same D and T are among them.
func areOpposed(divisibilities []member) bool {
	slices.SortFunc(divisibilities, compareDivisibilities)
	return hasPair(divisibilities, compareDivisibilities, func(x, y member) bool { return x.node.Kind != y.node.Kind })
}

// hasPair looks for two that match, among those that stand side by side and are alike.
func hasPair(sorted []member, compare func(x, y member) int, match func(x, y member) bool) bool {
	found := false
pairs:
	for i, x := range sorted {
		for _, y := range sorted[i+1:] {
			if compare(x, y) != 0 {
				continue pairs
			}
			if match(x, y) {
				found = true
				break pairs
			}
		}
	}
	return found
}

// compareLines is 0 of two atoms whose parts are the same or opposite: each is held against the other with a first
// coefficient above 0.
func compareLines(x, y member) int {
	turnX, turnY := falls(x), falls(y)
	return slices.CompareFunc(x.node.T.Parts, y.node.T.Parts, func(p, q api.Part) int {
		if order := cmp.Compare(p.Var, q.Var); order != 0 {
			return order
		}
		return zint.Cmp(turned(p.C, turnX), turned(q.C, turnY))
	})
}

// compareDivisibilities is 0 of two with the same D and T. That parts may be opposite makes no difference here: as a
// divisibility stands, none of its coefficients is below 0.
func compareDivisibilities(x, y member) int {
	if order := zint.Cmp(x.node.D, y.node.D); order != 0 {
		return order
	}
	if order := compareLines(x, y); order != 0 {
		return order
	}
	return zint.Cmp(x.node.T.K, y.node.T.K)
}

// falls tells on which side of 0 an atom's first coefficient is. Each atom has one, but for the constants.
func falls(atom member) bool {
	return atom.node.T.Parts[0].C.Neg
}

// turned is a number or its opposite, to be read alone: both have the same limbs.
func turned(n api.Int, turn bool) api.Int {
	return api.Int{Neg: n.Neg != turn, Mag: n.Mag}
}
