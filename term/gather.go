package term

import (
	"cmp"
	"slices"

	"riddle/api"
	"riddle/zint"
)

// gather is the sum of each variable's coefficients, which may be 0, in new memory.
func gather(lists ...[]api.Part) map[int]api.Int {
	sums := make(map[int]api.Int)
	for _, parts := range lists {
		for _, p := range parts {
			sums[p.Var] = zint.Add(sums[p.Var], p.C)
		}
	}
	return sums
}

// stand is the term of gathered sums and a constant. The map is ranged over in any order; what is answered is sorted.
func stand(sums map[int]api.Int, k api.Int) api.Term {
	var parts []api.Part
	for v, c := range sums {
		if zint.Sign(c) != 0 {
			parts = append(parts, api.Part{Var: v, C: c})
		}
	}
	slices.SortFunc(parts, orderParts)
	return api.Term{Parts: parts, K: zint.Norm(k)}
}

// orderParts is -1, 0, 1.
func orderParts(a, b api.Part) int {
	if order := cmp.Compare(a.Var, b.Var); order != 0 {
		return order
	}
	return zint.Cmp(a.C, b.C)
}
