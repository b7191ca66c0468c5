package term_test

import (
	"slices"
	"testing"

	"riddle/api"
	"riddle/term"
	"riddle/zint"
)

const drawn = 3000

func TestP51Norm(t *testing.T) {
	for _, c := range []struct{ t, want api.Term }{
		{api.Term{}, api.Term{}},
		{of(5, p(1, 3), p(0, 2), p(1, -3)), of(5, p(0, 2))},
		{of(0, p(2, 1), p(1, 1), p(0, 1)), of(0, p(0, 1), p(1, 1), p(2, 1))},
		{of(0, p(most, 1), p(0, 1), p(least, 1)), of(0, p(least, 1), p(0, 1), p(most, 1))},
		{of(0, p(4, 1), p(4, 1), p(4, 1)), of(0, p(4, 3))},
		{of(0, p(4, 1), p(4, -1), p(4, 1)), of(0, p(4, 1))},
		{of(0, p(4, 1), p(4, -1)), api.Term{}},
		{of(0, p(4, 0)), api.Term{}},
		{of(0, big(4, below())), api.Term{}},
		{of(0, big(4, below(0, 0))), api.Term{}},
		{of(0, big(4, below(6, 0))), of(0, p(4, -6))},
		{of(0, big(4, above(top)), p(4, 1)), of(0, big(4, above(0, 1)))},
		{of(0, big(4, above(0, 0, 1, 0)), p(4, -1)), of(0, big(4, above(top, top)))},
		{api.Term{K: below()}, api.Term{}},
		{api.Term{K: below(0)}, api.Term{}},
		{api.Term{K: below(8, 9, 0)}, api.Term{K: below(8, 9)}},
	} {
		wantTerm(t, "Norm of "+tell(c.t), term.Norm(c.t), c.want)
	}
	d := &dice{state: 51}
	for range drawn {
		u := d.term(8)
		got := term.Norm(u)
		wantTerm(t, "Norm of "+tell(u), got, slowNorm(u))
		wantTerm(t, "Norm again", term.Norm(got), got)
	}
}

func TestP51Valid(t *testing.T) {
	for _, c := range []struct {
		t    api.Term
		want bool
	}{
		{api.Term{}, true},
		{api.Term{Parts: []api.Part{}, K: api.Int{Mag: []uint32{}}}, true},
		{of(-5), true},
		{api.Term{K: below()}, false},
		{api.Term{K: above(0)}, false},
		{api.Term{K: above(1, 0)}, false},
		{api.Term{K: above(0, 1)}, true},
		{of(0, p(0, 1)), true},
		{of(0, p(least, 1), p(-1, -1), p(0, 7), p(most, 1)), true},
		{of(0, p(0, 1), p(-1, 1)), false},
		{of(0, p(most, 1), p(least, 1)), false},
		{of(0, p(0, 1), p(2, 1), p(1, 1)), false},
		{of(0, p(0, 1), p(0, 1)), false},
		{of(0, p(0, 1), p(1, 1), p(0, 1)), false},
		{of(0, p(0, 0)), false},
		{of(0, p(0, 1), p(1, 0)), false},
		{of(0, p(0, 0), p(1, 1)), false},
		{of(0, big(0, below())), false},
		{of(0, big(0, below(0))), false},
		{of(0, big(0, above(4, 0))), false},
		{of(0, p(0, 1), big(1, below(4, 4, 0))), false},
		{of(0, big(0, above(0, 4)), big(1, below(0, 0, 4))), true},
	} {
		if got := term.Valid(c.t); got != c.want {
			t.Errorf("Valid of %s: %v", tell(c.t), got)
		}
	}
	d := &dice{state: 52}
	for range drawn {
		u := d.term(3)
		if got := term.Valid(u); got != slowValid(u) {
			t.Errorf("Valid of %s: %v", tell(u), got)
		}
		if !term.Valid(term.Norm(u)) {
			t.Errorf("Norm of %s does not stand", tell(u))
		}
	}
}

func TestP51ConstAndVar(t *testing.T) {
	for _, k := range edges() {
		wantTerm(t, "Const of "+tellInt(k), term.Const(k), api.Term{K: plain(k)})
	}
	for _, v := range variables() {
		wantTerm(t, "Var", term.Var(v), of(0, p(v, 1)))
	}
}

func TestP52AddAndSub(t *testing.T) {
	wantTerm(t, "Add", term.Add(of(1, p(0, 2), p(3, 1)), of(4, p(3, -1), p(1, 1))), of(5, p(0, 2), p(1, 1)))
	wantTerm(t, "Sub", term.Sub(of(1, p(0, 2), p(3, 1)), of(4, p(3, -1), p(0, 2))), of(-3, p(3, 2)))
	wantTerm(t, "Add with a carry", term.Add(api.Term{Parts: []api.Part{big(0, above(top, top))}, K: above(top)}, of(1, p(0, 1))), api.Term{Parts: []api.Part{big(0, above(0, 0, 1))}, K: above(0, 1)})
	wantTerm(t, "Sub of nothing", term.Sub(of(4, p(1, 1)), api.Term{}), of(4, p(1, 1)))
	wantTerm(t, "Sub from nothing", term.Sub(api.Term{}, of(4, p(1, 1))), of(-4, p(1, -1)))
	for _, a := range terms() {
		for _, b := range terms() {
			wantTerm(t, "Add of "+tell(a)+" and "+tell(b), term.Add(a, b), slowAdd(a, b))
			wantTerm(t, "Sub of "+tell(a)+" and "+tell(b), term.Sub(a, b), slowSub(a, b))
		}
		wantTerm(t, "Sub of itself, "+tell(a), term.Sub(a, a), api.Term{})
	}
}

func TestP52Scale(t *testing.T) {
	for _, k := range []api.Int{above(), below(), above(0, 0), below(0)} {
		wantTerm(t, "Scale by 0", term.Scale(k, of(5, p(0, 1), p(1, -1))), api.Term{})
	}
	wantTerm(t, "Scale", term.Scale(n(-3), of(5, p(0, 1), p(1, -1))), of(-15, p(0, -3), p(1, 3)))
	wantTerm(t, "Scale by a longer number", term.Scale(above(0, 1, 0), of(0, p(0, -6))), of(0, big(0, below(0, 6))))
	for _, k := range edges() {
		for _, u := range terms() {
			wantTerm(t, "Scale by "+tellInt(k)+" of "+tell(u), term.Scale(k, u), slowScale(k, u))
		}
	}
}

func TestP52Coef(t *testing.T) {
	wantInt(t, "Coef of none", term.Coef(of(5, p(0, 2)), 1), api.Int{})
	wantInt(t, "Coef of nothing", term.Coef(api.Term{}, 0), api.Int{})
	wantInt(t, "Coef of opposites", term.Coef(of(5, p(0, 2), p(0, -2)), 0), api.Int{})
	wantInt(t, "Coef of several", term.Coef(of(5, big(0, above(top)), p(1, 8), p(0, 1)), 0), above(0, 1))
	wantInt(t, "Coef of a marked 0", term.Coef(of(5, big(most, below(0))), most), api.Int{})
	for _, u := range terms() {
		for _, v := range variables() {
			wantInt(t, "Coef of "+tell(u), term.Coef(u, v), slowCoef(u, v))
		}
	}
}

func TestP52Without(t *testing.T) {
	wantTerm(t, "Without", term.Without(of(5, p(0, 2)), 0), of(5))
	wantTerm(t, "Without what comes twice", term.Without(of(5, p(0, 2), p(1, 1), p(0, 7)), 0), of(5, p(1, 1)))
	wantTerm(t, "Without what isn't there", term.Without(of(5, p(2, 2), p(1, 1)), 0), of(5, p(1, 1), p(2, 2)))
	for _, u := range terms() {
		for _, v := range variables() {
			wantTerm(t, "Without of "+tell(u), term.Without(u, v), slowWithout(u, v))
		}
	}
}

func TestP52Put(t *testing.T) {
	wantTerm(t, "Put", term.Put(of(1, p(0, 2), p(1, 1)), 0, of(-3, p(1, 1))), of(-5, p(1, 3)))
	wantTerm(t, "Put of a term with the variable itself", term.Put(of(1, p(0, 2)), 0, of(4, p(0, 3), p(1, 1))), of(9, p(0, 6), p(1, 2)))
	wantTerm(t, "Put of the variable itself", term.Put(of(1, p(0, 2), p(1, 1)), 0, of(0, p(0, 1))), of(1, p(0, 2), p(1, 1)))
	wantTerm(t, "Put into a term without it", term.Put(of(1, p(1, 1)), 0, of(7, p(1, 5))), of(1, p(1, 1)))
	wantTerm(t, "Put where it comes to 0", term.Put(of(1, p(0, 2), p(0, -2)), 0, of(7, p(1, 5))), of(1))
	wantTerm(t, "Put that lets the others fall away", term.Put(of(6, p(0, 2), p(1, 4)), 0, of(-3, p(1, -2))), api.Term{})
	wantTerm(t, "Put of 0", term.Put(of(6, p(0, 2), p(1, 4)), 0, api.Term{K: below(0)}), of(6, p(1, 4)))
	d := &dice{state: 53}
	for range drawn {
		a, u, v := d.term(6), d.term(6), d.variable()
		if len(a.Parts) > 0 && d.roll(3) > 0 {
			v = a.Parts[0].Var
		}
		got := term.Put(a, v, u)
		wantTerm(t, "Put of "+tell(u)+" into "+tell(a), got, slowPut(a, v, u))
		wantTerm(t, "Put by its parts", got, slowAdd(slowWithout(a, v), slowScale(slowCoef(a, v), u)))
	}
}

func TestP53Vars(t *testing.T) {
	for _, c := range []struct {
		t    api.Term
		want []int
	}{
		{api.Term{}, nil},
		{of(9), nil},
		{of(0, p(3, 1), p(-1, -1)), []int{-1, 3}},
		{of(0, p(3, 1), p(3, 1), p(-1, 0)), []int{3}},
		{of(0, p(3, 1), p(3, -1)), nil},
		{of(0, p(most, 1), p(0, 1), p(least, 1)), []int{least, 0, most}},
	} {
		if got := term.Vars(c.t); !slices.Equal(got, c.want) {
			t.Errorf("Vars of %s: %v", tell(c.t), got)
		}
	}
	d := &dice{state: 54}
	for range drawn {
		u := d.term(9)
		if got := term.Vars(u); !slices.Equal(got, slowVars(u)) {
			t.Errorf("Vars of %s: %v", tell(u), got)
		}
	}
}

func TestP53Limbs(t *testing.T) {
	for _, c := range []struct {
		t    api.Term
		want int
	}{
		{api.Term{}, 0},
		{api.Term{K: below(0, 0)}, 0},
		{of(0, p(0, 0)), 0},
		{of(0, big(0, above(1, 1, 1)), big(0, below(1, 1, 1))), 0},
		{of(0, big(0, above(1, 1, 1)), big(0, below(0, 1, 1))), 1},
		{of(-1), 1},
		{of(1, big(0, above(0, 1))), 2},
		{api.Term{Parts: []api.Part{p(0, 1)}, K: below(0, 0, 1, 0)}, 3},
		{of(0, p(0, 1), big(1, above(1, 2, 3, 4)), p(2, 1)), 4},
		{of(0, big(0, above(top)), p(0, 1)), 2},
	} {
		if got := term.Limbs(c.t); got != c.want {
			t.Errorf("Limbs of %s: %d", tell(c.t), got)
		}
	}
	d := &dice{state: 55}
	for range drawn {
		u := d.term(6)
		if got := term.Limbs(u); got != slowLimbs(u) {
			t.Errorf("Limbs of %s: %d", tell(u), got)
		}
	}
}

func TestP53Order(t *testing.T) {
	rising := []api.Term{
		of(-5), of(0), of(5), {K: above(0, 1)},
		of(0, p(least, -1)), of(0, p(least, 1)),
		of(0, p(-1, 5)),
		{Parts: []api.Part{big(0, below(0, 1))}},
		of(7, p(0, -1)),
		of(-1, p(0, 1)), of(0, p(0, 1)), of(9, p(0, 1)),
		of(0, p(0, 1), p(1, -1)), of(-9, p(0, 1), p(1, 1)), of(0, p(0, 1), p(1, 1), p(2, -7)), of(0, p(0, 1), p(2, -7)),
		of(0, p(0, 2)), of(-3, p(0, 2), p(1, 1)),
		of(0, p(1, 1)),
		of(0, p(most, -1)), of(-9, p(most, 1)),
	}
	for i, a := range rising {
		for j, b := range rising {
			want := 0
			if i < j {
				want = -1
			} else if i > j {
				want = 1
			}
			if got := term.Order(a, b); got != want {
				t.Errorf("Order of %s and %s: %d", tell(a), tell(b), got)
			}
		}
	}
	for _, a := range terms() {
		for _, b := range terms() {
			if got := term.Order(a, b); got != slowOrder(a, b) {
				t.Errorf("Order of %s and %s: %d", tell(a), tell(b), got)
			}
		}
	}
}

func TestP54Eval(t *testing.T) {
	for _, c := range []struct {
		t    api.Term
		vals []api.Value
		want api.Int
		e    api.Errno
	}{
		{of(1, p(0, 2), p(1, -1)), []api.Value{value(1, 3), value(0, 4), value(0, 9)}, n(6), api.OK},
		{of(0, p(0, 1)), nil, api.Int{}, api.ErrArity},
		{of(7, p(0, 0)), nil, n(7), api.OK},
		{of(7, p(0, 3), p(0, -3)), nil, n(7), api.OK},
		{of(7, p(0, 3), p(0, -3)), []api.Value{value(0, 100)}, n(7), api.OK},
		{of(7, p(0, 3), p(0, -2)), nil, api.Int{}, api.ErrArity},
		{api.Term{K: below(7, 0)}, nil, n(-7), api.OK},
		{api.Term{K: below(0)}, []api.Value{value(0, 1)}, api.Int{}, api.OK},
		{api.Term{}, nil, api.Int{}, api.OK},
		{of(1, p(0, 2), p(1, 1)), []api.Value{value(0, 3), value(2, 9)}, api.Int{}, api.ErrArity},
		{of(1, p(0, 2), p(1, 1)), []api.Value{value(1, 3), value(2, 9)}, api.Int{}, api.ErrArity},
		{of(1, p(0, 2)), []api.Value{value(5, 3), value(-1, 9), value(0, 0), value(0, 8)}, n(1), api.OK},
		{of(0, p(0, 2)), []api.Value{{Var: 0, N: below(0)}, value(0, 8)}, api.Int{}, api.OK},
		{of(0, p(least, 1), p(most, 1)), []api.Value{value(most, 5), value(least, -3)}, n(2), api.OK},
		{of(1, p(0, 2)), []api.Value{{Var: 0, N: above(0, 1<<31, 0)}}, above(1, 0, 1), api.OK},
		{of(0, p(1, 2), p(0, 2)), []api.Value{value(0, 6), value(1, -6)}, api.Int{}, api.OK},
	} {
		got, e := term.Eval(c.t, c.vals)
		if e != c.e {
			t.Errorf("Eval of %s, %s: %v", tell(c.t), tellValues(c.vals), e)
		}
		wantInt(t, "Eval of "+tell(c.t)+", "+tellValues(c.vals), got, c.want)
	}
	refused := 0
	d := &dice{state: 56}
	for range drawn {
		u, vals := d.term(6), d.values()
		got, e := term.Eval(u, vals)
		want, wrong := slowEval(u, vals)
		if e != wrong {
			t.Errorf("Eval of %s, %s: %v", tell(u), tellValues(vals), e)
		}
		wantInt(t, "Eval of "+tell(u)+", "+tellValues(vals), got, want)
		if e != api.OK {
			refused++
		}
	}
	if refused < drawn/10 || refused > drawn*9/10 {
		t.Errorf("%d of %d were refused", refused, drawn)
	}
}

// The chapter's examples, one by one.
func TestExamples(t *testing.T) {
	wantTerm(t, "Norm", term.Norm(of(5, p(1, 3), p(0, 2), p(1, -3))), of(5, p(0, 2)))
	wantTerm(t, "Put", term.Put(of(1, p(0, 2), p(1, 1)), 0, of(-3, p(1, 1))), of(-5, p(1, 3)))
	wantInt(t, "Coef", term.Coef(of(5, p(0, 2)), 1), zint.Of(0))
	wantTerm(t, "Without", term.Without(of(5, p(0, 2)), 0), of(5))
	if got := term.Vars(of(0, p(3, 1), p(-1, -1))); !slices.Equal(got, []int{-1, 3}) {
		t.Error("Vars", got)
	}
	v0, v1 := of(0, p(0, 1)), of(0, p(1, 1))
	got := []int{term.Order(v0, v1), term.Order(v0, of(0, p(0, 2))), term.Order(of(5), v0), term.Order(of(9, p(0, 1)), of(0, p(0, 1), p(1, 1))), term.Order(v0, of(-1, p(0, 1)))}
	if !slices.Equal(got, []int{-1, -1, -1, -1, 1}) {
		t.Error("Order", got)
	}
	a, e := term.Eval(of(1, p(0, 2), p(1, -1)), []api.Value{value(1, 3), value(0, 4), value(0, 9)})
	b, f := term.Eval(v0, nil)
	c, g := term.Eval(of(7, p(0, 0)), nil)
	if zint.Text(a) != "6" || e != api.OK || zint.Text(b) != "0" || f != api.ErrArity || zint.Text(c) != "7" || g != api.OK {
		t.Error("Eval", a, e, b, f, c, g)
	}
	if term.Limbs(of(1, big(0, above(0, 1)))) != 2 || term.Limbs(api.Term{}) != 0 {
		t.Error("Limbs")
	}
	if api.ErrArity != 170 {
		t.Error("ErrArity is", int(api.ErrArity))
	}
}
