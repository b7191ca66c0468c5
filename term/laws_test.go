package term_test

import (
	"testing"

	"riddle/api"
	"riddle/term"
	"riddle/zint"
)

// evaluated is the value of a term all of whose variables have one.
func evaluated(t *testing.T, u api.Term, vals []api.Value) api.Int {
	t.Helper()
	value, e := term.Eval(u, vals)
	if e != api.OK {
		t.Fatalf("Eval of %s, %s: %v", tell(u), tellValues(vals), e)
	}
	return value
}

func TestP55EvalOfSumsAndProducts(t *testing.T) {
	d := &dice{state: 61}
	for range drawn {
		a, b, k, vals := d.term(5), d.term(5), d.number(), d.allValues()
		x, y := evaluated(t, a, vals), evaluated(t, b, vals)
		wantInt(t, "Eval of Add", evaluated(t, term.Add(a, b), vals), zint.Add(x, y))
		wantInt(t, "Eval of Sub", evaluated(t, term.Sub(a, b), vals), zint.Sub(x, y))
		wantInt(t, "Eval of Scale", evaluated(t, term.Scale(k, a), vals), zint.Mul(k, x))
		wantInt(t, "Eval of Norm", evaluated(t, term.Norm(a), vals), x)
		wantInt(t, "Eval of Const", evaluated(t, term.Const(k), nil), plain(k))
	}
}

func TestP55EvalOfPut(t *testing.T) {
	d := &dice{state: 62}
	for range drawn {
		a, u, v, vals := d.term(5), d.term(5), d.variable(), d.allValues()
		if len(a.Parts) > 0 && d.roll(3) > 0 {
			v = a.Parts[0].Var
		}
		put := append([]api.Value{{Var: v, N: evaluated(t, u, vals)}}, vals...)
		wantInt(t, "Eval of Put", evaluated(t, term.Put(a, v, u), vals), evaluated(t, a, put))
		apart := zint.Add(evaluated(t, term.Without(a, v), vals), zint.Mul(term.Coef(a, v), evaluated(t, term.Var(v), vals)))
		wantInt(t, "Eval of Without and Coef", apart, evaluated(t, a, vals))
	}
}

func TestP55PutWithoutTheVariable(t *testing.T) {
	d := &dice{state: 63}
	for range drawn {
		u, v := d.term(5), d.variable()
		a := term.Without(d.term(5), v)
		wantTerm(t, "Put into a term without it", term.Put(a, v, u), a)
		opposites := api.Term{Parts: append([]api.Part{p(v, 3), p(v, -3), p(v, 0)}, a.Parts...), K: a.K}
		wantTerm(t, "Put where it comes to 0", term.Put(opposites, v, u), a)
		wantTerm(t, "Put of the variable itself", term.Put(a, v, term.Var(v)), a)
		wantInt(t, "Coef of what is left", term.Coef(term.Put(a, v, u), v), api.Int{})
	}
}

// respelt says the same in another way: parts are split, turned round, and made longer by noughts.
func (d *dice) respelt(t api.Term) api.Term {
	u := api.Term{K: api.Int{Neg: t.K.Neg, Mag: append(append([]uint32(nil), t.K.Mag...), make([]uint32, d.roll(3))...)}}
	for _, q := range t.Parts {
		piece := d.number()
		u.Parts = append([]api.Part{{Var: q.Var, C: piece}}, u.Parts...)
		u.Parts = append(u.Parts, api.Part{Var: q.Var, C: zint.Sub(q.C, piece)})
	}
	v, piece := d.variable(), d.number()
	u.Parts = append(u.Parts, big(v, piece))
	return api.Term{Parts: append([]api.Part{big(v, zint.Neg(piece))}, u.Parts...), K: u.K}
}

func TestP55OrderOfTheSame(t *testing.T) {
	d := &dice{state: 64}
	for range drawn {
		a := d.term(5)
		b := d.respelt(a)
		if term.Order(a, b) != 0 || term.Order(b, a) != 0 {
			t.Errorf("Order of %s and %s, which say the same", tell(a), tell(b))
		}
		c := d.term(5)
		if term.Order(b, c) != term.Order(a, c) || term.Order(c, b) != term.Order(c, a) {
			t.Errorf("%s and %s say the same, and stand otherwise beside %s", tell(a), tell(b), tell(c))
		}
		wantTerm(t, "Norm of the same", term.Norm(a), term.Norm(b))
	}
	for _, a := range terms() {
		for _, b := range terms() {
			if (term.Order(a, b) == 0) != (tell(term.Sub(a, b)) == tell(api.Term{})) {
				t.Errorf("Order of %s and %s", tell(a), tell(b))
			}
		}
	}
}

func TestP55OrderIsOne(t *testing.T) {
	all := terms()
	for _, a := range all {
		for _, b := range all {
			order := term.Order(a, b)
			if back := term.Order(b, a); back != -order {
				t.Errorf("Order of %s and %s: %d, and turned round %d", tell(a), tell(b), order, back)
			}
			for _, c := range all {
				if order <= 0 && slowOrder(b, c) <= 0 && term.Order(a, c) > 0 {
					t.Errorf("%s, %s, %s are in no order", tell(a), tell(b), tell(c))
				}
			}
		}
	}
}
