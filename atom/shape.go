package atom

import (
	"riddle/api"
	"riddle/term"
	"riddle/zint"
)

// Less says that a term is above 0.
func Less(t api.Term) api.Atom {
	t = term.Norm(t)
	if len(t.Parts) == 0 {
		return truth(zint.Sign(t.K) > 0)
	}
	one, g := zint.Of(1), common(t)
	k := zint.Add(quotient(zint.Sub(t.K, one), g), one)
	t = each(t, func(n api.Int) api.Int { return quotient(n, g) })
	return api.Atom{Kind: api.Less, T: api.Term{Parts: t.Parts, K: k}}
}

// Div says that a number divides a term.
func Div(d api.Int, t api.Term) (api.Atom, api.Errno) {
	return Norm(api.Atom{Kind: api.Div, D: d, T: t})
}

// Not says that it doesn't.
func Not(d api.Int, t api.Term) (api.Atom, api.Errno) {
	return Norm(api.Atom{Kind: api.Not, D: d, T: t})
}

// divisibility is the form of a Div or a Not. The kinds always and never are what it comes to, if D divides T under all
// values, and if it does under none.
func divisibility(a api.Atom, always, never int) (api.Atom, api.Errno) {
	if zint.Sign(a.D) == 0 {
		return api.Atom{}, api.ErrZero
	}
	d := zint.Abs(a.D)
	t := modulo(term.Norm(a.T), d)
	// Without parts g is d itself, so that a constant comes out as it should, too.
	g := common(t, d)
	if !divides(g, t.K) {
		return api.Atom{Kind: never}, api.OK
	}
	d = quotient(d, g)
	if zint.Cmp(d, zint.Of(1)) == 0 {
		return api.Atom{Kind: always}, api.OK
	}
	t = each(t, func(n api.Int) api.Int { return quotient(n, g) })
	opposite := modulo(each(t, zint.Neg), d)
	if term.Order(opposite, t) < 0 {
		t = opposite
	}
	return api.Atom{Kind: a.Kind, D: d, T: t}, api.OK
}

func truth(is bool) api.Atom {
	if is {
		return api.Atom{Kind: api.True}
	}
	return api.Atom{Kind: api.False}
}

// common is the greatest common divisor of a term's coefficients and of numbers beside them.
func common(t api.Term, numbers ...api.Int) api.Int {
	for _, p := range t.Parts {
		numbers = append(numbers, p.C)
	}
	return zint.Gcd(numbers...)
}

// modulo is a term that stands, with all its numbers taken modulo d, which is above 0.
func modulo(t api.Term, d api.Int) api.Term {
	return each(t, func(n api.Int) api.Int { return remainder(n, d) })
}

// each is a term that stands, with what f answers for each of its numbers; no part stays with the coefficient 0.
func each(t api.Term, f func(n api.Int) api.Int) api.Term {
	var parts []api.Part
	for _, p := range t.Parts {
		if c := f(p.C); zint.Sign(c) != 0 {
			parts = append(parts, api.Part{Var: p.Var, C: c})
		}
	}
	return api.Term{Parts: parts, K: f(t.K)}
}

// quotient is cut downwards; d is above 0.
func quotient(n, d api.Int) api.Int {
	q, _, _ := zint.DivMod(n, d)
	return q
}

// remainder is 0 to d - 1; d is above 0.
func remainder(n, d api.Int) api.Int {
	_, r, _ := zint.DivMod(n, d)
	return r
}

func divides(d, n api.Int) bool {
	return zint.Sign(remainder(n, d)) == 0
}
