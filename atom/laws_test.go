package atom_test

import (
	"slices"
	"testing"

	"riddle/api"
	"riddle/atom"
	"riddle/term"
)

// formed is what Norm answers for an atom that it takes.
func formed(t *testing.T, a api.Atom) api.Atom {
	t.Helper()
	form, e := atom.Norm(a)
	if e != api.OK {
		t.Fatalf("Norm of %s: %v", tell(a), e)
	}
	return form
}

// holds is it of an atom all of whose variables have values.
func holds(t *testing.T, a api.Atom, vals []api.Value) bool {
	t.Helper()
	is, e := atom.Holds(a, vals)
	if e != api.OK {
		t.Fatalf("Holds of %s, %s: %v", tell(a), tellValues(vals), e)
	}
	return is
}

func TestP64NormOfWhatStands(t *testing.T) {
	d := &dice{state: 71}
	for range drawn {
		a := d.formed()
		form := formed(t, a)
		want(t, "Norm of what stands", formed(t, form), form)
		if !atom.Valid(form) {
			t.Errorf("Norm of %s does not stand: %s", tell(a), tell(form))
		}
		if atom.Valid(a) {
			want(t, "Norm of what stands", form, a)
		}
		turned, put := atom.Negate(a), atom.Put(a, d.variable(), d.term(3))
		want(t, "Norm of Negate", formed(t, turned), turned)
		want(t, "Norm of Put", formed(t, put), put)
	}
}

// respelt says the same by other numbers: a comparison so many times itself, a divisibility with many divisors more.
func (d *dice) respelt(a api.Atom) api.Atom {
	if a.Kind < api.Less {
		return api.Atom{Kind: a.Kind, D: d.number(), T: d.term(3)}
	}
	k := 1 + d.roll(5)
	t := term.Scale(n(k), a.T)
	if a.Kind == api.Less {
		// A part of what is between two multiples changes nothing.
		return api.Atom{Kind: a.Kind, D: d.number(), T: spoiltTerm(term.Sub(t, of(d.roll(k))))}
	}
	full := term.Scale(n(k), term.Const(a.D))
	for range d.roll(4) {
		v := term.Scale(full.K, term.Var(d.variable()))
		t = term.Add(term.Sub(t, full), v)
	}
	if d.roll(2) == 0 {
		t = term.Scale(n(-1), t)
	}
	return api.Atom{Kind: a.Kind, D: spoilt(full.K), T: spoiltTerm(t)}
}

func TestP64OneForm(t *testing.T) {
	d := &dice{state: 72}
	for range drawn {
		a := formed(t, d.formed())
		b := d.respelt(a)
		want(t, "Norm of "+tell(b), formed(t, b), a)
		vals := d.allValues()
		vals = append(vals, value(9, 1), value(7, 1))
		if holds(t, a, vals) != says(b, vals) {
			t.Errorf("%s and %s have one form, and say different things under %s", tell(a), tell(b), tellValues(vals))
		}
	}
}

// All that get one form say the same, whatever the values are: here all small atoms, under all small values.
func TestP64SameFormsSayTheSame(t *testing.T) {
	const span = 13
	type said [span * span]bool
	seen := map[string]said{}
	for kind := api.Less; kind <= api.Not; kind++ {
		for d := -6; d <= 6; d++ {
			if d == 0 || kind == api.Less && d != 1 {
				continue
			}
			for c := -4; c <= 4; c++ {
				for e := -3; e <= 3; e++ {
					for k := -7; k <= 7; k++ {
						a := api.Atom{Kind: kind, D: n(d), T: of(k, p(0, c), p(1, e))}
						var all said
						for i := range all {
							s := c*(i%span-6) + e*(i/span-6) + k
							all[i] = s > 0
							if kind != api.Less {
								all[i] = (s%d == 0) == (kind == api.Div)
							}
						}
						form := tell(formed(t, a))
						if was, ok := seen[form]; ok && was != all {
							t.Fatalf("%s and another one have the form %s, and say different things", tell(a), form)
						}
						seen[form] = all
					}
				}
			}
		}
	}
	if !seen[tell(always())][0] || seen[tell(never())][0] || len(seen) < 100 {
		t.Error("the forms", len(seen))
	}
}

func TestP64HoldsOfNorm(t *testing.T) {
	d := &dice{state: 73}
	for range 2 * drawn {
		a, vals := d.formed(), d.allValues()
		is := holds(t, a, vals)
		if is != says(a, vals) {
			t.Errorf("Holds of %s, %s: %v", tell(a), tellValues(vals), is)
		}
		if holds(t, formed(t, a), vals) != is {
			t.Errorf("Holds of Norm of %s, %s: %v", tell(a), tellValues(vals), !is)
		}
	}
}

func TestP64Negate(t *testing.T) {
	d := &dice{state: 74}
	for range drawn {
		a, vals := d.formed(), d.allValues()
		turned := atom.Negate(a)
		want(t, "Negate of Negate of "+tell(a), atom.Negate(turned), formed(t, a))
		if holds(t, a, vals) == holds(t, turned, vals) {
			t.Errorf("%s and its Negate under %s", tell(a), tellValues(vals))
		}
	}
}

func TestP64HoldsOfPut(t *testing.T) {
	d := &dice{state: 75}
	for range drawn {
		a, v, u, vals := d.formed(), d.variable(), d.term(4), d.allValues()
		if len(a.T.Parts) > 0 && d.roll(3) > 0 {
			v = a.T.Parts[0].Var
		}
		k, e := term.Eval(u, vals)
		if e != api.OK {
			t.Fatal(tellTerm(u), e)
		}
		put := slices.Insert(slices.Clone(vals), 0, api.Value{Var: v, N: k})
		if holds(t, atom.Put(a, v, u), vals) != holds(t, a, put) {
			t.Errorf("Holds of Put of %s into %s, under %s", tellTerm(u), tell(a), tellValues(vals))
		}
		want(t, "Put of the variable itself", atom.Put(a, v, term.Var(v)), formed(t, a))
		want(t, "Negate of Put", atom.Negate(atom.Put(a, v, u)), atom.Put(atom.Negate(a), v, u))
	}
}

func TestP64OrderOfForms(t *testing.T) {
	d := &dice{state: 76}
	for range drawn {
		a, b, c := d.formed(), d.formed(), d.formed()
		form, other := formed(t, a), formed(t, d.respelt(formed(t, a)))
		if atom.Order(form, other) != 0 {
			t.Errorf("Order of %s and %s", tell(form), tell(other))
		}
		order := atom.Order(a, b)
		if atom.Order(b, a) != -order {
			t.Errorf("Order of %s and %s: %d, and turned round %d", tell(a), tell(b), order, atom.Order(b, a))
		}
		if order <= 0 && atom.Order(b, c) <= 0 && atom.Order(a, c) > 0 {
			t.Errorf("%s, %s, %s are in no order", tell(a), tell(b), tell(c))
		}
		if (atom.Order(form, formed(t, b)) == 0) != (tell(form) == tell(formed(t, b))) {
			t.Errorf("Order of %s and %s", tell(form), tell(b))
		}
	}
}
