package lower_test

import (
	"slices"
	"strings"
	"testing"

	"riddle/api"
	"riddle/lower"
)

func TestP101Names(t *testing.T) {
	for _, l := range []struct{ text, want string }{
		// Free names, rising byte by byte, each once.
		{"true", ""}, {"1 < 2", ""}, {"x < 1", "x"}, {"x < x + x", "x"}, {"z < y and y < x", "x y z"}, {"b < a and B < A and a1 < a_ and aa < z", "A B a a1 a_ aa b z"}, {"3 divides y + x", "x y"}, {"0 * q < 1", "q"}, {"q - q = p - p", "p q"}, {"not (2 * (x - -y) >= 4)", "x y"},
		// Behind them those that are bound, in the order of the text.
		{"some x . x < 1", "x"}, {"some x . y < 1", "y x"}, {"some z y x . true", "z y x"}, {"all b a . c < b", "c b a"}, {"some x . all y . some z . x < z", "x y z"}, {"all z . some y . x = y", "x z y"},
		// Free and bound; bound several times; several times in one quantifier.
		{"x < 1 and some x . x < 2", "x x"}, {"(some x . x < 2) and x < 1", "x x"}, {"some x . x < 1 and some x . x < 2", "x x"}, {"(some x . x < 1) and (some x . x < 2)", "x x"}, {"some x x . x < 1", "x x"}, {"all x y x z x . x < w", "w x y x z x"}, {"some x . (all x . x < 1) or x < y and some y . y < x", "y x x y"},
		{"y < x and some x y . x < y and all y x . y < x", "x y x y y x"},
		// Side by side, and in both kids of each connective; a quantifier ahead of those below it.
		{"(some a . a < b) and (all c . c < d)", "b d a c"}, {"(some a . a < b) or (all c . c < d) or (some e . e < f)", "b d f a c e"}, {"(some a . a < b) implies (all c . c < d)", "b d a c"}, {"(some a . a < b) iff (all c . c < d)", "b d a c"}, {"not (some a . a < b) and not not (all c . c < d)", "b d a c"},
		{"(some q . (all p . p < q) iff (all r . r < q)) iff (some o . (all n . n < o) implies (all m . m < o))", "q p r o n m"}, {"some q . (all p . some o . true) or (all n . some m . true) or some l . true", "q p o n m l"},
		{"some k . (all j . true) and ((some i . true) or (some h . true)) and (all g f . true)", "k j i h g f"},
	} {
		if got := lower.Names(read(t, l.text)); !slices.Equal(got, strings.Fields(l.want)) {
			t.Errorf("Names of %q: %q, want %q", l.text, got, strings.Fields(l.want))
		}
	}
}

// None, where the tree may not be, whatever names are in it.
func TestP101Refused(t *testing.T) {
	for _, r := range refusals() {
		if got := lower.Names(r.tree); len(got) != 0 {
			t.Errorf("Names of %s: %q", r.of, got)
		}
		for _, u := range []api.Tree{and(below1("x"), r.tree), some("q", or(below1("p"), r.tree, below1("q")))} {
			if got := lower.Names(u); len(got) != 0 {
				t.Errorf("Names of what has %s in it: %q", r.of, got)
			}
		}
	}
	if got := lower.Names(over(mostDeep-2, below1("x"), not)); !slices.Equal(got, []string{"x"}) {
		t.Errorf("Names of what is as deep as may be: %q", got)
	}
	long := strings.Repeat("n", api.MaxName)
	if got := lower.Names(some(long, lt(v(long), v("x")))); !slices.Equal(got, []string{"x", long}) {
		t.Errorf("Names of a long name: %q", got)
	}
}

// The variable of a name is that of the innermost quantifier that has it, of several there the last one, else the free one:
// what stands at each place is seen in a row of atoms, which are made from the left to the right.
func TestP102NamesAtPlaces(t *testing.T) {
	for _, l := range []struct{ text, made string }{
		{"x < 1 and (some x . x < 2) and x < 3", "0<-v0+1; 0<-v1+2; some v1 3; 0<-v0+3; and 2 4"},
		{"some x . x < 1 and (some x . x < 2) and x < 3", "0<-v0+1; 0<-v1+2; some v1 3; 0<-v0+3; and 2 4; some v0 6"},
		{"some x y . (all y x . x < y) and x < y", "0<v2-v3; all v3 2; all v2 3; 0<-v0+v1; and 4 5; some v1 6; some v0 7"},
		{"some x . all y . some x . x + y < z", "0<v0-v2-v3; some v3 2; all v2 3; some v1 4"},
		{"some y . (some y y . y < x) or y < x", "0<v0-v3; some v3 2; some v2 3; 0<v0-v1; or 4 5; some v1 6"},
		{"(some x . x < y) or (some y . x < y) or x < y", "0<v1-v2; some v2 2; 0<-v0+v3; some v3 4; 0<-v0+v1; or 3 5 6"},
		{"all x . x < 1 implies (all x . x < 2 implies (all y x . x < 3)) and x < 4", "0<v0; 0<v1-1; 0<-v3+3; all v3 4; all v2 5; or 3 6; all v1 7; 0<-v0+4; and 8 9; or 2 10; all v0 11"},
		{"all y x . y - x < 0 and x - y < x + z", "0<-v1+v2; 0<v0+v1; and 2 3; all v2 4; all v1 5"},
	} {
		side{l.text, l.made}.holds(t)
	}
}
