package atom_test

import (
	"testing"

	"riddle/api"
	"riddle/atom"
	"riddle/term"
	"riddle/zint"
)

func TestP61Less(t *testing.T) {
	for _, c := range []struct {
		t    api.Term
		want api.Atom
	}{
		{api.Term{}, never()},
		{of(1), always()},
		{of(-1), never()},
		{api.Term{K: below()}, never()},
		{api.Term{K: above(0, 0)}, never()},
		{api.Term{K: above(0, 1, 0)}, always()},
		{api.Term{K: below(0, 1)}, never()},
		{of(4, p(0, 0)), always()},
		{of(0, p(0, 0)), never()},
		{of(4, p(0, 3), p(0, -3)), always()},
		{of(-4, p(0, 3), p(1, 1), p(0, -3), p(1, -1)), never()},
		{of(3, p(0, 2)), less(of(2, p(0, 1)))},
		{of(4, p(0, 2)), less(of(2, p(0, 1)))},
		{of(5, p(0, 2)), less(of(3, p(0, 1)))},
		{of(0, p(0, 2)), less(of(0, p(0, 1)))},
		{of(1, p(0, 2)), less(of(1, p(0, 1)))},
		{of(2, p(0, 2)), less(of(1, p(0, 1)))},
		{of(-1, p(0, 2)), less(of(0, p(0, 1)))},
		{of(-2, p(0, 2)), less(of(-1, p(0, 1)))},
		{of(-3, p(0, 2)), less(of(-1, p(0, 1)))},
		{of(1, p(0, -3)), less(of(1, p(0, -1)))},
		{of(0, p(0, -3)), less(of(0, p(0, -1)))},
		{of(-2, p(0, -3)), less(of(0, p(0, -1)))},
		{of(-3, p(0, -3)), less(of(-1, p(0, -1)))},
		{of(7, p(0, -1)), less(of(7, p(0, -1)))},
		{of(-4, p(0, 2), p(1, -3)), less(of(-4, p(0, 2), p(1, -3)))},
		{of(10, p(0, 6), p(1, -9)), less(of(4, p(0, 2), p(1, -3)))},
		{of(-10, p(0, 6), p(1, -9), p(2, 12)), less(of(-3, p(0, 2), p(1, -3), p(2, 4)))},
		{of(1, p(1, 4), p(0, 2), p(1, 2)), less(of(1, p(0, 1), p(1, 3)))},
		{of(1, p(1, 5), p(0, 2), p(1, -5)), less(of(1, p(0, 1)))},
		{of(1, big(3, above(0, 6)), big(least, below(0, 9, 0))), less(of(1, p(least, -3), p(3, 2)))},
		{api.Term{Parts: []api.Part{p(most, 2)}, K: below(1, 0, 1)}, less(api.Term{Parts: []api.Part{p(most, 1)}, K: below(0, 1<<31)})},
		{api.Term{Parts: []api.Part{big(0, above(0, 2))}, K: above(1, 2)}, less(of(2, p(0, 1)))},
	} {
		want(t, "Less of "+tellTerm(c.t), atom.Less(c.t), c.want)
		want(t, "Less of "+tellTerm(spoiltTerm(c.t)), atom.Less(spoiltTerm(c.t)), c.want)
	}
	d := &dice{state: 61}
	for range drawn {
		u := d.term(5)
		want(t, "Less of "+tellTerm(u), atom.Less(u), slowLess(u))
	}
}

func TestP61DivAndNot(t *testing.T) {
	long := api.Term{Parts: []api.Part{big(0, above(0, 0, 4))}, K: above(0, 0, 2)}
	for _, c := range []struct {
		d    api.Int
		t    api.Term
		want api.Atom // of Div
	}{
		// constants, and what comes to one
		{n(5), of(10), always()},
		{n(5), of(3), never()},
		{n(5), of(-10), always()},
		{n(5), of(-3), never()},
		{n(5), api.Term{}, always()},
		{n(5), of(0, p(0, 10), p(1, -5)), always()},
		{n(5), of(-1, p(0, 10), p(1, -5)), never()},
		{n(5), of(5, p(0, 3), p(0, -3)), always()},
		{n(5), of(4, p(0, 3), p(0, 2)), never()},
		// divisors
		{n(1), of(0, p(0, 1)), always()},
		{n(-1), of(7, p(0, 1), p(1, 3)), always()},
		{above(1, 0, 0), of(7, p(0, 1)), always()},
		{below(1, 0), of(7), always()},
		{n(-6), of(2, p(0, 4)), div(3, of(2, p(0, 1)))},
		{n(6), of(2, p(0, 4)), div(3, of(2, p(0, 1)))},
		{below(6, 0, 0), of(2, p(0, 4)), div(3, of(2, p(0, 1)))},
		{above(0, 0, 8), long, never()},
		{above(0, 0, 12), long, never()},
		{above(0, 0, 6), long, div(3, of(2, p(0, 1)))},
		{above(0, 0, 10, 0), long, div(5, of(1, p(0, 2)))},
		{below(top, top), of(-1, p(0, 1)), api.Atom{Kind: api.Div, D: above(top, top), T: api.Term{Parts: []api.Part{p(0, 1)}, K: above(top-1, top)}}},
		// a divisor in common, which divides the constant or doesn't
		{n(4), of(2, p(0, 6)), div(2, of(1, p(0, 1)))},
		{n(4), of(1, p(0, 2)), never()},
		{n(4), of(3, p(0, 2)), never()},
		{n(4), of(-1, p(0, 2)), never()},
		{n(4), of(-2, p(0, 2)), div(2, of(1, p(0, 1)))},
		{n(4), of(-2, p(0, -2)), div(2, of(1, p(0, 1)))},
		{n(12), of(6, p(0, 4), p(1, 6)), div(6, of(3, p(0, 2), p(1, 3)))},
		{n(12), of(5, p(0, 4), p(1, 6)), never()},
		{n(12), of(5, p(0, 4), p(1, 3)), div(12, of(5, p(0, 4), p(1, 3)))},
		{n(4), of(0, p(0, 2), p(1, 2)), div(2, of(0, p(0, 1), p(1, 1)))},
		{n(9), of(0, p(0, 3), p(1, 9)), div(3, of(0, p(0, 1)))},
		// coefficients that are 0 modulo the divisor
		{n(3), of(4, p(0, 3), p(1, 1)), div(3, of(1, p(1, 1)))},
		{n(3), of(4, p(0, -6), p(1, 1), p(2, 9)), div(3, of(1, p(1, 1)))},
		// the term, its opposite, and which comes first
		{n(3), of(1, p(0, 2)), div(3, of(2, p(0, 1)))},
		{n(3), of(0, p(0, 2)), div(3, of(0, p(0, 1)))},
		{n(7), of(0, p(0, 4)), div(7, of(0, p(0, 3)))},
		{n(7), of(5, p(0, 3)), div(7, of(5, p(0, 3)))},
		{n(7), of(1, p(0, -3)), div(7, of(6, p(0, 3)))},
		{n(2), of(1, p(0, 1)), div(2, of(1, p(0, 1)))},
		{n(2), of(-1, p(0, -1), p(1, 3)), div(2, of(1, p(0, 1), p(1, 1)))},
		{n(4), of(1, p(0, 2), p(1, 1)), div(4, of(1, p(0, 2), p(1, 1)))},
		{n(4), of(1, p(0, 2), p(1, 3)), div(4, of(3, p(0, 2), p(1, 1)))},
		{n(6), of(1, p(0, 3), p(1, 4)), div(6, of(5, p(0, 3), p(1, 2)))},
		{n(5), of(4, p(-1, 4), p(1, 1)), div(5, of(1, p(-1, 1), p(1, 4)))},
		{n(5), of(4, p(1, 1), p(-1, 4)), div(5, of(1, p(-1, 1), p(1, 4)))},
	} {
		for _, d := range []api.Int{c.d, spoilt(c.d), zint.Neg(c.d)} {
			for _, u := range []api.Term{c.t, spoiltTerm(c.t), term.Sub(api.Term{}, c.t)} {
				name := tellInt(d) + " of " + tellTerm(u)
				got, e := atom.Div(d, u)
				other, f := atom.Not(d, u)
				if e != api.OK || f != api.OK {
					t.Errorf("%s: Div is refused with %v, Not with %v", name, e, f)
				}
				want(t, "Div by "+name, got, c.want)
				want(t, "Not by "+name, other, slowTurned(c.want))
			}
		}
	}
}

// A term and its opposite get one form, also where each coefficient is half of the divisor.
func TestP61TermsAndOpposites(t *testing.T) {
	for d := 1; d <= 40; d++ {
		for c := range d {
			for k := range d {
				got, e := atom.Div(n(d), of(k, p(3, c)))
				if e != api.OK {
					t.Fatal(d, c, k, e)
				}
				want(t, "Div", got, slowDiv(n(d), of(k, p(3, c))))
				opposite, _ := atom.Div(n(d), of(-k, p(3, -c)))
				want(t, "Div of the opposite", opposite, got)
			}
		}
	}
}

func TestP61ManyDivisors(t *testing.T) {
	d := &dice{state: 62}
	for range 2 * drawn {
		k, u := d.number(), d.term(5)
		if len(zint.Norm(k).Mag) == 0 {
			continue
		}
		a, e := atom.Div(k, u)
		b, f := atom.Not(k, u)
		if e != api.OK || f != api.OK {
			t.Fatal(tellInt(k), tellTerm(u), e, f)
		}
		want(t, "Div by "+tellInt(k)+" of "+tellTerm(u), a, slowDiv(k, u))
		want(t, "Not by "+tellInt(k)+" of "+tellTerm(u), b, slowTurned(slowDiv(k, u)))
	}
}

func TestP61DivisorZero(t *testing.T) {
	for _, d := range []api.Int{above(), below(), above(0), below(0), above(0, 0, 0), below(0, 0)} {
		for _, u := range []api.Term{{}, of(0, p(0, 1)), of(3), of(0, p(0, 0)), spoiltTerm(of(0, p(0, 4)))} {
			a, e := atom.Div(d, u)
			wantError(t, "Div by 0", a, e, api.ErrZero)
			a, e = atom.Not(d, u)
			wantError(t, "Not by 0", a, e, api.ErrZero)
			for _, kind := range []int{api.Div, api.Not} {
				a, e = atom.Norm(api.Atom{Kind: kind, D: d, T: u})
				wantError(t, "Norm with the divisor 0", a, e, api.ErrZero)
			}
		}
	}
}

func TestP61Norm(t *testing.T) {
	for _, c := range []struct{ a, want api.Atom }{
		{never(), never()},
		{always(), always()},
		{api.Atom{Kind: api.False, D: n(7), T: of(1)}, never()},
		{api.Atom{Kind: api.True, D: below(), T: of(-3, p(0, 1), p(0, 2))}, always()},
		{api.Atom{Kind: api.Less, D: n(7), T: of(3, p(0, 2))}, less(of(2, p(0, 1)))},
		{api.Atom{Kind: api.Less, D: below(0), T: of(3, p(0, 1))}, less(of(3, p(0, 1)))},
		{api.Atom{Kind: api.Less, D: n(7), T: of(3)}, always()},
		{api.Atom{Kind: api.Less, D: n(7), T: of(-3)}, never()},
		{div(-6, of(2, p(0, 4))), div(3, of(2, p(0, 1)))},
		{not(-6, of(2, p(0, 4))), not(3, of(2, p(0, 1)))},
		{div(4, of(1, p(0, 2))), never()},
		{not(4, of(1, p(0, 2))), always()},
		{div(4, of(8, p(0, 4))), always()},
		{not(4, of(8, p(0, 4))), never()},
	} {
		got, e := atom.Norm(c.a)
		if e != api.OK {
			t.Errorf("Norm of %s: %v", tell(c.a), e)
		}
		want(t, "Norm of "+tell(c.a), got, c.want)
	}
	for _, kind := range others() {
		for _, a := range []api.Atom{{Kind: kind}, {Kind: kind, D: n(3), T: of(1, p(0, 2))}, {Kind: kind, D: below(0), T: of(1, p(0, 0))}} {
			got, e := atom.Norm(a)
			wantError(t, "Norm of "+tell(a), got, e, api.ErrArg)
		}
	}
	d := &dice{state: 63}
	for range drawn {
		a := d.atom()
		got, e := atom.Norm(a)
		form, f := slowNorm(a)
		if e != f {
			t.Errorf("Norm of %s: %v, want %v", tell(a), e, f)
		}
		want(t, "Norm of "+tell(a), got, form)
	}
}

func TestP61Valid(t *testing.T) {
	for _, c := range []struct {
		a    api.Atom
		want bool
	}{
		{never(), true},
		{always(), true},
		{api.Atom{Kind: api.True, D: above([]uint32{}...), T: api.Term{Parts: []api.Part{}}}, true},
		{api.Atom{Kind: api.False, D: n(1)}, false},
		{api.Atom{Kind: api.True, D: n(-1)}, false},
		{api.Atom{Kind: api.False, D: below()}, false},
		{api.Atom{Kind: api.True, D: above(0)}, false},
		{api.Atom{Kind: api.False, T: of(1)}, false},
		{api.Atom{Kind: api.True, T: of(0, p(0, 1))}, false},
		{api.Atom{Kind: api.True, T: of(0, p(0, 0))}, false},
		{api.Atom{Kind: api.True, T: api.Term{K: below()}}, false},
		{less(of(2, p(0, 1))), true},
		{less(of(-4, p(0, 2), p(1, -3))), true},
		{less(of(-4, p(1, 2), p(0, -3))), false},
		{less(of(2, p(0, 2))), false},
		{less(of(2, p(0, -2))), false},
		{less(of(2, p(0, 1), p(1, 0))), false},
		{less(of(2, p(0, 1), p(0, 1))), false},
		{less(api.Term{Parts: []api.Part{p(0, 1)}, K: above(0)}), false},
		{less(api.Term{Parts: []api.Part{big(0, above(1, 0))}}), false},
		{less(of(2)), false},
		{less(of(-2)), false},
		{less(api.Term{}), false},
		{api.Atom{Kind: api.Less, D: n(1), T: of(2, p(0, 1))}, false},
		{api.Atom{Kind: api.Less, D: below(), T: of(2, p(0, 1))}, false},
		{api.Atom{Kind: api.Less, D: above(0), T: of(2, p(0, 1))}, false},
		{div(3, of(2, p(0, 1))), true},
		{not(3, of(2, p(0, 1))), true},
		{div(3, of(1, p(0, 2))), false},
		{not(3, of(1, p(0, 2))), false},
		{div(7, of(6, p(0, 3))), true},
		{div(7, of(6, p(0, 4))), false},
		{div(4, of(1, p(0, 2), p(1, 1))), true},
		{div(4, of(1, p(0, 2), p(1, 3))), false},
		{div(2, of(1, p(0, 1))), true},
		{div(2, of(2, p(0, 1))), false},
		{div(2, of(-1, p(0, 1))), false},
		{div(2, of(1, p(0, -1))), false},
		{div(2, of(1, p(0, 3))), false},
		{div(3, of(1, p(0, 3), p(1, 1))), false},
		{div(3, of(3, p(0, 1))), false},
		{div(-3, of(2, p(0, 1))), false},
		{div(6, of(2, p(0, 2))), false},
		{div(6, of(1, p(0, 2))), false},
		{div(6, of(1, p(0, 2), p(1, 3))), true},
		{div(1, of(0, p(0, 1))), false},
		{div(0, of(0, p(0, 1))), false},
		{not(0, of(0, p(0, 1))), false},
		{div(5, of(0)), false},
		{div(5, of(3)), false},
		{api.Atom{Kind: api.Div, D: above(3, 0), T: of(2, p(0, 1))}, false},
		{api.Atom{Kind: api.Div, D: above(0, 1), T: of(2, p(0, 1))}, true},
		{api.Atom{Kind: api.Not, D: above(0, 1), T: api.Term{Parts: []api.Part{p(0, 1)}, K: above(top)}}, true},
		{api.Atom{Kind: api.Not, D: above(0, 1), T: api.Term{Parts: []api.Part{p(0, 1)}, K: above(0, 1)}}, false},
	} {
		if got := atom.Valid(c.a); got != c.want {
			t.Errorf("Valid of %s: %v", tell(c.a), got)
		}
	}
	for _, kind := range others() {
		if atom.Valid(api.Atom{Kind: kind}) || atom.Valid(api.Atom{Kind: kind, D: n(3), T: of(1, p(0, 1))}) {
			t.Errorf("Valid of the kind %d", kind)
		}
	}
	d := &dice{state: 64}
	for range drawn {
		a := d.atom()
		if got := atom.Valid(a); got != slowValid(a) {
			t.Errorf("Valid of %s: %v", tell(a), got)
		}
		if form, e := atom.Norm(a); e == api.OK && !atom.Valid(form) {
			t.Errorf("Norm of %s does not stand", tell(a))
		}
	}
}

// All small atoms of one variable and of two: just one of all that say the same by their numbers stands.
func TestP61ValidOfAllSmallOnes(t *testing.T) {
	for kind := api.False - 1; kind <= api.Not+1; kind++ {
		for d := -1; d <= 6; d++ {
			for c := -2; c <= 5; c++ {
				for k := -3; k <= 5; k++ {
					for _, u := range []api.Term{of(k), of(k, p(0, c)), of(k, p(0, 2), p(1, c)), of(k, p(1, c), p(0, 3))} {
						a := api.Atom{Kind: kind, D: n(d), T: u}
						if got := atom.Valid(a); got != slowValid(a) {
							t.Errorf("Valid of %s: %v", tell(a), got)
						}
					}
				}
			}
		}
	}
}

// The chapter's examples, one by one.
func TestExamples(t *testing.T) {
	v0, v1 := term.Var(0), term.Var(1)
	want(t, "Less", atom.Less(of(3, p(0, 2))), less(of(2, p(0, 1))))
	want(t, "Less", atom.Less(of(4, p(0, 2))), less(of(2, p(0, 1))))
	want(t, "Less", atom.Less(of(1, p(0, -3))), less(of(1, p(0, -1))))
	want(t, "Less", atom.Less(of(0)), never())
	want(t, "Less", atom.Less(of(1)), always())
	for _, c := range []struct {
		d    int
		t    api.Term
		want api.Atom
		e    api.Errno
	}{
		{4, of(2, p(0, 6)), div(2, of(1, p(0, 1))), api.OK}, {4, of(1, p(0, 2)), never(), api.OK}, {-6, of(2, p(0, 4)), div(3, of(2, p(0, 1))), api.OK},
		{1, v0, always(), api.OK}, {5, of(10), always(), api.OK}, {5, of(3), never(), api.OK}, {0, v0, api.Atom{}, api.ErrZero},
	} {
		got, e := atom.Div(n(c.d), c.t)
		want(t, "Div", got, c.want)
		if e != c.e {
			t.Error("Div", tellTerm(c.t), e)
		}
	}
	a, e := atom.Not(n(4), of(1, p(0, 2)))
	want(t, "Not", a, always())
	want(t, "Negate", atom.Negate(less(of(2, p(0, 1)))), less(of(-1, p(0, -1))))
	want(t, "Negate", atom.Negate(api.Atom{Kind: 9}), api.Atom{})
	want(t, "Put", atom.Put(less(term.Add(v0, v1)), 0, term.Scale(n(-1), v1)), never())
	want(t, "Put", atom.Put(div(3, v0), 0, of(1, p(1, 3))), never())
	is, f := atom.Holds(div(3, of(1, p(0, 1))), []api.Value{value(0, -4)})
	none, g := atom.Holds(less(v0), nil)
	if e != api.OK || !is || f != api.OK || none || g != api.ErrArity {
		t.Error("Not, Holds", e, is, f, none, g)
	}
	texts := []string{atom.Text(less(of(-4, p(0, 2), p(1, -3)))), atom.Text(div(3, of(1, p(0, 1)))), atom.Text(always())}
	if texts[0] != "0<2v0-3v1-4" || texts[1] != "3|v0+1" || texts[2] != "true" {
		t.Error("Text", texts)
	}
	if api.ErrArg != 1 || api.ErrZero != 11 || api.ErrArity != 170 {
		t.Error("the errors' numbers")
	}
}
