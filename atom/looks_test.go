package atom_test

import (
	"slices"
	"strconv"
	"strings"
	"testing"

	"riddle/api"
	"riddle/atom"
	"riddle/term"
	"riddle/zint"
)

func TestP62Negate(t *testing.T) {
	for _, c := range []struct{ a, want api.Atom }{
		{never(), always()},
		{always(), never()},
		{api.Atom{Kind: api.False, D: n(4), T: of(3, p(0, 1))}, always()},
		{api.Atom{Kind: api.True, D: n(4), T: of(3, p(0, 1))}, never()},
		{less(of(2, p(0, 1))), less(of(-1, p(0, -1)))},
		{less(of(1, p(0, 1))), less(of(0, p(0, -1)))},
		{less(of(0, p(0, 1))), less(of(1, p(0, -1)))},
		{less(of(3, p(0, 2))), less(of(-1, p(0, -1)))},
		{less(of(-4, p(0, 2), p(1, -3))), less(of(5, p(0, -2), p(1, 3)))},
		{less(api.Term{Parts: []api.Part{p(0, 1)}, K: below(top)}), less(api.Term{Parts: []api.Part{p(0, -1)}, K: above(0, 1)})},
		{api.Atom{Kind: api.Less, D: n(4), T: of(3)}, never()},
		{less(of(-3)), always()},
		{less(of(0)), always()},
		{div(3, of(2, p(0, 1))), not(3, of(2, p(0, 1)))},
		{not(3, of(2, p(0, 1))), div(3, of(2, p(0, 1)))},
		{div(-6, of(2, p(0, 4))), not(3, of(2, p(0, 1)))},
		{not(-6, of(2, p(0, 4))), div(3, of(2, p(0, 1)))},
		{div(4, of(1, p(0, 2))), always()},
		{not(4, of(1, p(0, 2))), never()},
		{div(1, of(1, p(0, 2))), never()},
		{not(1, of(1, p(0, 2))), always()},
	} {
		want(t, "Negate of "+tell(c.a), atom.Negate(c.a), c.want)
	}
	d := &dice{state: 65}
	for range drawn {
		a := d.atom()
		want(t, "Negate of "+tell(a), atom.Negate(a), slowNegate(a))
	}
}

func TestP62Put(t *testing.T) {
	v0, v1 := term.Var(0), term.Var(1)
	for _, c := range []struct {
		a    api.Atom
		v    int
		u    api.Term
		want api.Atom
	}{
		{never(), 0, of(3, p(1, 1)), never()},
		{always(), 0, of(-3, p(1, 1)), always()},
		{api.Atom{Kind: api.True, T: v0}, 0, of(-3), always()},
		{api.Atom{Kind: api.False, D: n(2), T: v0}, 0, of(3), never()},
		{less(of(0, p(0, 1), p(1, 1))), 0, of(0, p(1, -1)), never()},
		{less(of(0, p(0, 1), p(1, 1))), 0, of(1, p(1, -1)), always()},
		{less(of(0, p(0, 1), p(1, 1))), 0, of(3, p(1, 1)), less(of(2, p(1, 1)))},
		{less(of(0, p(0, 1), p(1, 1))), 2, of(3, p(1, 1)), less(of(0, p(0, 1), p(1, 1)))},
		{less(of(3, p(0, 2))), 0, of(0, p(0, 3)), less(of(1, p(0, 1)))},
		{less(of(3, p(0, 2))), 0, of(-2), never()},
		{less(of(3, p(0, 2))), 0, of(-1), always()},
		{div(3, v0), 0, of(1, p(1, 3)), never()},
		{not(3, v0), 0, of(1, p(1, 3)), always()},
		{div(3, v0), 0, of(-3, p(1, 3)), always()},
		{div(3, v0), 0, of(1, p(1, 4), p(0, -1)), div(3, of(2, p(0, 1), p(1, 2)))},
		{not(3, v0), 0, of(1, p(1, 4), p(0, -1)), not(3, of(2, p(0, 1), p(1, 2)))},
		{div(3, v0), 1, of(1), div(3, v0)},
		{div(12, of(0, p(0, 1), p(1, 4))), 0, of(0, p(1, 2)), div(2, v1)},
		// the form does not have the variable any more
		{div(3, of(0, p(0, 3), p(1, 1))), 0, of(1, p(2, 1)), div(3, v1)},
		{div(4, of(1, p(0, 2))), 0, of(1), never()},
		{div(3, v0), 0, spoiltTerm(of(1, p(1, 3))), never()},
	} {
		want(t, "Put into "+tell(c.a), atom.Put(c.a, c.v, c.u), c.want)
	}
	d := &dice{state: 66}
	for range drawn {
		a, v, u := d.atom(), d.variable(), d.term(4)
		if len(a.T.Parts) > 0 && d.roll(3) > 0 {
			v = a.T.Parts[0].Var
		}
		want(t, "Put of "+tellTerm(u)+" into "+tell(a), atom.Put(a, v, u), slowPut(a, v, u))
	}
}

// What Norm refuses is turned into nothing, and told as nothing.
func TestP62AndP63Refused(t *testing.T) {
	var refused []api.Atom
	for _, kind := range others() {
		refused = append(refused, api.Atom{Kind: kind}, api.Atom{Kind: kind, D: n(3), T: of(1, p(0, 1))})
	}
	args := len(refused)
	for _, d := range []api.Int{above(), below(0), above(0, 0)} {
		refused = append(refused, api.Atom{Kind: api.Div, D: d, T: of(0)}, api.Atom{Kind: api.Not, D: d, T: of(1, p(0, 1))})
	}
	for i, a := range refused {
		want(t, "Negate of "+tell(a), atom.Negate(a), api.Atom{})
		want(t, "Put into "+tell(a), atom.Put(a, 0, of(1)), api.Atom{})
		if got := atom.Text(a); got != "" {
			t.Errorf("Text of %s: %s", tell(a), got)
		}
		wanted := api.ErrArg
		if i >= args {
			wanted = api.ErrZero
		}
		for _, vals := range [][]api.Value{nil, {value(0, 2)}} {
			if is, e := atom.Holds(a, vals); is || e != wanted {
				t.Errorf("Holds of %s: %v, %v", tell(a), is, e)
			}
		}
	}
}

func TestP63Order(t *testing.T) {
	rising := []api.Atom{
		{Kind: least}, {Kind: -1, D: n(9), T: of(9)},
		{Kind: api.False, D: n(-1)}, never(), {Kind: api.False, T: of(1)}, {Kind: api.False, D: n(1), T: of(-8)},
		{Kind: api.True, D: below(0, 1)}, {Kind: api.True, D: n(-5), T: of(3)}, always(), {Kind: api.True, T: of(0, p(0, 1))},
		less(of(-2)), less(of(2)), less(of(0, p(-1, 1))), less(of(5, p(0, -1))), less(of(3, p(0, 2))), less(of(4, p(0, 2))), less(of(0, p(0, 2), p(1, 1))), less(of(0, p(0, 4))),
		{Kind: api.Less, D: n(1), T: of(0, p(0, 2))},
		div(-6, of(2, p(0, 4))), div(0, of(9)), div(2, of(0, p(1, 1))), div(3, of(5)), div(3, of(1, p(0, 1))), div(3, of(2, p(0, 1))), div(3, of(1, p(0, 2))),
		{Kind: api.Div, D: above(0, 1), T: of(-7)},
		not(-6, of(2, p(0, 4))), not(3, of(5)), not(3, of(1, p(0, 2))),
		{Kind: api.And}, {Kind: api.All, D: n(-4)}, {Kind: most, D: n(-9), T: of(-9)},
	}
	for i, a := range rising {
		for j, b := range rising {
			wanted := 0
			if i < j {
				wanted = -1
			} else if i > j {
				wanted = 1
			}
			respelt := api.Atom{Kind: b.Kind, D: spoilt(b.D), T: spoiltTerm(b.T)}
			for _, b := range []api.Atom{b, respelt} {
				if got := atom.Order(a, b); got != wanted {
					t.Errorf("Order of %s and %s: %d", tell(a), tell(b), got)
				}
				if got := atom.Order(b, a); got != -wanted {
					t.Errorf("Order of %s and %s: %d", tell(b), tell(a), got)
				}
			}
		}
	}
}

func TestP63Holds(t *testing.T) {
	for _, c := range []struct {
		a    api.Atom
		vals []api.Value
		want bool
		e    api.Errno
	}{
		{never(), nil, false, api.OK},
		{always(), nil, true, api.OK},
		{api.Atom{Kind: api.False, D: n(2), T: of(1, p(0, 1))}, nil, false, api.OK},
		{api.Atom{Kind: api.True, D: n(2), T: of(-1, p(0, 1))}, nil, true, api.OK},
		{less(of(0, p(0, 1))), nil, false, api.ErrArity},
		{less(of(0, p(0, 1))), []api.Value{value(1, 5)}, false, api.ErrArity},
		{less(of(0, p(0, 1))), []api.Value{value(0, 1)}, true, api.OK},
		{less(of(0, p(0, 1))), []api.Value{value(0, 0)}, false, api.OK},
		{less(of(0, p(0, 1))), []api.Value{{Var: 0, N: below(0)}, value(0, 1)}, false, api.OK},
		{less(of(0, p(0, 1))), []api.Value{value(0, 1), value(0, -1)}, true, api.OK},
		{less(of(0, p(0, 1), p(1, 1))), []api.Value{value(0, 1)}, false, api.ErrArity},
		{less(of(0, p(0, 1), p(1, 1))), []api.Value{value(1, 1)}, false, api.ErrArity},
		{less(of(3, p(0, 2))), []api.Value{value(0, -1)}, true, api.OK},
		{less(of(3, p(0, 2))), []api.Value{value(0, -2)}, false, api.OK},
		{less(of(3, p(0, 2), p(0, -2))), nil, true, api.OK},
		{less(of(-3, p(0, 0))), nil, false, api.OK},
		{div(3, of(1, p(0, 1))), []api.Value{value(0, -4)}, true, api.OK},
		{div(3, of(1, p(0, 1))), []api.Value{value(0, -3)}, false, api.OK},
		{not(3, of(1, p(0, 1))), []api.Value{value(0, -4)}, false, api.OK},
		{not(3, of(1, p(0, 1))), []api.Value{value(0, -3)}, true, api.OK},
		{div(3, of(1, p(0, 1))), []api.Value{value(2, 1)}, false, api.ErrArity},
		{not(3, of(1, p(0, 1))), nil, false, api.ErrArity},
		{div(-3, of(1, p(0, 1))), []api.Value{{Var: 0, N: above(top, top)}}, false, api.OK},
		{div(-3, of(0, p(0, 1))), []api.Value{{Var: 0, N: above(top, top, 0)}}, true, api.OK},
		// no variable is left in the form
		{div(3, of(1, p(0, 3))), nil, false, api.OK},
		{not(3, of(1, p(0, 3))), nil, true, api.OK},
		{div(3, of(6, p(0, 3))), nil, true, api.OK},
		{div(1, of(1, p(0, 1))), nil, true, api.OK},
		{not(-1, of(1, p(0, 1))), nil, false, api.OK},
		{div(4, of(1, p(0, 2))), nil, false, api.OK},
		{div(3, of(0, p(0, 3), p(1, 1))), []api.Value{value(1, 6)}, true, api.OK},
	} {
		if is, e := atom.Holds(c.a, c.vals); is != c.want || e != c.e {
			t.Errorf("Holds of %s, %s: %v, %v", tell(c.a), tellValues(c.vals), is, e)
		}
	}
	d := &dice{state: 67}
	var seen [3]int
	for range 2 * drawn {
		a, vals := d.atom(), d.values()
		is, e := atom.Holds(a, vals)
		wanted, f := slowHolds(a, vals)
		if is != wanted || e != f {
			t.Errorf("Holds of %s, %s: %v, %v, want %v, %v", tell(a), tellValues(vals), is, e, wanted, f)
		}
		switch {
		case e == api.ErrArity:
			seen[0]++
		case e == api.OK && is:
			seen[1]++
		case e == api.OK:
			seen[2]++
		}
	}
	if slices.Min(seen[:]) < drawn/20 {
		t.Errorf("of %d: %v without values, so, not so", 2*drawn, seen)
	}
}

func TestP63Text(t *testing.T) {
	for _, c := range []struct {
		a    api.Atom
		want string
	}{
		{never(), "false"},
		{always(), "true"},
		{api.Atom{Kind: api.False, D: n(3), T: of(1, p(0, 1))}, "false"},
		{api.Atom{Kind: api.True, D: n(3), T: of(1, p(0, 1))}, "true"},
		{less(of(-4, p(0, 2), p(1, -3))), "0<2v0-3v1-4"},
		{less(of(0, p(0, 1))), "0<v0"},
		{less(of(0, p(0, -1))), "0<-v0"},
		{less(of(1, p(0, -1))), "0<-v0+1"},
		{less(of(-1, p(0, 1))), "0<v0-1"},
		{less(of(10, p(0, -11), p(1, 1), p(2, -1), p(3, 10))), "0<-11v0+v1-v2+10v3+10"},
		{less(of(0, p(-1, 1), p(2, 1))), "0<v-1+v2"},
		{less(of(5, p(-12, -1), p(-1, -7))), "0<-v-12-7v-1+5"},
		{less(of(0, p(least, 1), p(most, -2))), "0<v" + strconv.Itoa(least) + "-2v" + strconv.Itoa(most)},
		{less(api.Term{Parts: []api.Part{big(0, below(0, 1)), p(1, 1)}, K: below(1, 0, 1)}), "0<-4294967296v0+v1-18446744073709551617"},
		{less(of(3, p(0, 2))), "0<v0+2"},
		{less(of(3)), "true"},
		{less(of(0)), "false"},
		{div(3, of(1, p(0, 1))), "3|v0+1"},
		{not(3, of(1, p(0, 1))), "3!v0+1"},
		{div(-6, of(2, p(0, 4))), "3|v0+2"},
		{not(-6, of(2, p(0, 4))), "3!v0+2"},
		{div(12, of(0, p(-3, 5), p(4, 2))), "12|5v-3+2v4"},
		{div(2, of(-2, p(4, 1))), "2|v4"},
		{api.Atom{Kind: api.Not, D: above(0, 1), T: of(-1, p(0, 1))}, "4294967296!v0+4294967295"},
		{div(4, of(1, p(0, 2))), "false"},
		{not(4, of(1, p(0, 2))), "true"},
		{div(1, of(1, p(0, 2))), "true"},
		{div(0, of(1, p(0, 2))), ""},
		{api.Atom{Kind: 9}, ""},
	} {
		if got := atom.Text(c.a); got != c.want {
			t.Errorf("Text of %s: %s, want %s", tell(c.a), got, c.want)
		}
		respelt := api.Atom{Kind: c.a.Kind, D: spoilt(c.a.D), T: spoiltTerm(c.a.T)}
		if got := atom.Text(respelt); got != c.want {
			t.Errorf("Text of %s: %s, want %s", tell(respelt), got, c.want)
		}
	}
}

// read is the atom of a text: the only one that is written so.
func read(t *testing.T, s string) api.Atom {
	t.Helper()
	switch s {
	case "false":
		return never()
	case "true":
		return always()
	}
	at := strings.IndexAny(s, "<|!")
	if at < 0 {
		t.Fatalf("no atom's text: %s", s)
	}
	d, e := zint.Parse(s[:at])
	if e != api.OK {
		t.Fatalf("no divisor: %s", s)
	}
	kind := api.Less + strings.IndexByte("<|!", s[at])
	return api.Atom{Kind: kind, D: d, T: readTerm(t, s[at+1:])}
}

func readTerm(t *testing.T, s string) api.Term {
	t.Helper()
	var u api.Term
	number := func() (n api.Int) {
		neg := strings.HasPrefix(s, "-")
		s = strings.TrimLeft(s, "+-")
		end := len(s) - len(strings.TrimLeft(s, "0123456789"))
		if end == 0 {
			s = "1" + s
			end = 1
		}
		n, e := zint.Parse(s[:end])
		if e != api.OK {
			t.Fatalf("no number: %s", s)
		}
		s = s[end:]
		if neg {
			return zint.Neg(n)
		}
		return n
	}
	for s != "" {
		n := number()
		if !strings.HasPrefix(s, "v") {
			u.K = n
			break
		}
		s = s[1:]
		end := 1 + strings.IndexAny(s[1:]+"+", "+-v")
		v, e := strconv.Atoi(s[:end])
		if e != nil {
			t.Fatalf("no variable: %s", s)
		}
		s = s[end:]
		u.Parts = append(u.Parts, big(v, n))
	}
	return u
}

// Each form has a text of its own: it can be read back from it, limb by limb.
func TestP63TextsAreRead(t *testing.T) {
	d := &dice{state: 68}
	for range drawn {
		a := d.formed()
		form, _ := slowNorm(a)
		text := atom.Text(a)
		want(t, "the text "+text, read(t, text), form)
	}
}
