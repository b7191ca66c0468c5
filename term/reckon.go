package term

import (
	"riddle/api"
	"riddle/zint"
)

// Add is the sum.
func Add(a, b api.Term) api.Term {
	return stand(gather(a.Parts, b.Parts), zint.Add(a.K, b.K))
}

// Sub is the difference.
func Sub(a, b api.Term) api.Term {
	return Add(a, Scale(zint.Of(-1), b))
}

// Scale is so many times it.
func Scale(k api.Int, t api.Term) api.Term {
	if zint.Sign(k) == 0 {
		// No part may be left with the coefficient 0; any other k leaves none so.
		return api.Term{}
	}
	t = Norm(t)
	for i, p := range t.Parts {
		t.Parts[i].C = zint.Mul(k, p.C)
	}
	t.K = zint.Mul(k, t.K)
	return t
}

// Without is the term without a variable.
func Without(t api.Term, v int) api.Term {
	sums := gather(t.Parts)
	delete(sums, v)
	return stand(sums, t.K)
}

// Put is the term with another one in a variable's place.
func Put(t api.Term, v int, u api.Term) api.Term {
	return Add(Without(t, v), Scale(Coef(t, v), u))
}

// Eval is its value.
func Eval(t api.Term, vals []api.Value) (api.Int, api.Errno) {
	firsts := firstValues(vals)
	sum := zint.Norm(t.K)
	for v, c := range gather(t.Parts) {
		if zint.Sign(c) == 0 {
			// The term doesn't have this variable, so that it needs no value.
			continue
		}
		value, ok := firsts[v]
		if !ok {
			return api.Int{}, api.ErrArity
		}
		sum = zint.Add(sum, zint.Mul(c, value))
	}
	return sum, api.OK
}

// firstValues is each variable's value that counts. The numbers are those that were handed in, to be read alone.
func firstValues(vals []api.Value) map[int]api.Int {
	firsts := make(map[int]api.Int)
	for _, value := range vals {
		if _, ok := firsts[value.Var]; !ok {
			firsts[value.Var] = value.N
		}
	}
	return firsts
}
