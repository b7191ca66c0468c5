package syntax_test

import (
	"strconv"
	"strings"
	"testing"

	"riddle/api"
	"riddle/lex"
	"riddle/syntax"
)

// A tree's text a second time: with parentheses wherever they may be; and then with each pair left out, from the outermost
// on, that doesn't matter.

// signOf is a kind's word.
func signOf(kind int) string {
	return strings.Fields("? ? ? - + - * true false < <= = != >= > divides not and or implies iff some all")[kind]
}

// digits are a number's, reckoned limb by limb.
func digits(k api.Int) string {
	l := append([]uint32(nil), k.Mag...)
	text := ""
	for {
		rest, left := uint64(0), false
		for i := len(l) - 1; i >= 0; i-- {
			rest = rest<<32 | uint64(l[i])
			l[i] = uint32(rest / 10)
			rest %= 10
			left = left || l[i] > 0
		}
		text = strconv.Itoa(int(rest)) + text
		if !left {
			return text
		}
	}
}

// whole has each kid within parentheses, but for the beginnings of terms ahead of a comparison.
func whole(t api.Tree) string {
	kids := func() []string {
		var l []string
		for _, kid := range t.Kids {
			l = append(l, "( "+whole(kid)+" )")
		}
		return l
	}
	sign := signOf(t.Kind)
	switch t.Kind {
	case api.TreeNum:
		return digits(t.N)
	case api.TreeVar:
		return t.Name
	case api.TreeTrue, api.TreeFalse:
		return sign
	case api.TreeNeg, api.TreeNot:
		return sign + " " + kids()[0]
	case api.TreeMul, api.TreeDivides:
		return digits(t.N) + " " + sign + " " + kids()[0]
	case api.TreeSome, api.TreeAll:
		return sign + " " + strings.Join(t.Names, " ") + " . " + kids()[0]
	case api.TreeAdd, api.TreeSub, api.TreeAnd, api.TreeOr, api.TreeImplies, api.TreeIff:
		return strings.Join(kids(), " "+sign+" ")
	}
	return begun(t.Kids[0]) + " " + sign + " " + kids()[1]
}

// begun is a term that doesn't begin with a parenthesis.
func begun(t api.Tree) string {
	if t.Kind == api.TreeAdd || t.Kind == api.TreeSub {
		return begun(t.Kids[0]) + " " + signOf(t.Kind) + " ( " + whole(t.Kids[1]) + " )"
	}
	return whole(t)
}

// crowded is whole without blanks, but for those between two rows of letters and digits.
func crowded(t api.Tree) string {
	var b strings.Builder
	row := false
	for _, word := range strings.Fields(whole(t)) {
		letters := word[0] >= '0' && word[0] <= '9' || word[0] >= 'A' && word[0] <= 'Z' || word[0] >= 'a'
		if row && letters {
			b.WriteByte('\n')
		}
		b.WriteString(word)
		row = letters
	}
	return b.String()
}

// readAs tells whether words are read as a tree.
func readAs(words []string, t api.Tree) bool {
	got, m := syntax.Parse(strings.Join(words, " "))
	return m == (api.Mishap{}) && tell(got) == tell(t)
}

// pairs are the places of parentheses and of those that close them, outer ones first.
func pairs(words []string) [][2]int {
	var l [][2]int
	var open []int
	for i, word := range words {
		switch word {
		case "(":
			open = append(open, len(l))
			l = append(l, [2]int{i, 0})
		case ")":
			l[open[len(open)-1]][1] = i
			open = open[:len(open)-1]
		}
	}
	return l
}

func without(words []string, pair [2]int) []string {
	var l []string
	for i, word := range words {
		if i != pair[0] && i != pair[1] {
			l = append(l, word)
		}
	}
	return l
}

// fewest is whole without the parentheses that don't matter.
func fewest(t api.Tree) []string {
	words := strings.Fields(whole(t))
	for i := 0; ; {
		l := pairs(words)
		if i == len(l) {
			return words
		}
		if less := without(words, l[i]); readAs(less, t) {
			words = less
		} else {
			i++
		}
	}
}

// joined has one blank between each two words, but none within parentheses at their ends, nor behind a `-` ahead of its term:
// there is one ahead of a `-` between two terms, and what stands ahead of it ends a term.
func joined(words []string) string {
	text := ""
	for i, word := range words {
		blank := i > 0 && words[i-1] != "(" && word != ")"
		if blank && words[i-1] == "-" {
			blank = i > 1 && endsTerm(words[i-2])
		}
		if blank {
			text += " "
		}
		text += word
	}
	return text
}

func endsTerm(word string) bool {
	_, e := lex.Tokens(word)
	return word == ")" || word[0] >= '0' && word[0] <= '9' || lex.IsName(word) && e.Code == api.OK
}

// wantThereAndBack fails unless a tree's text is read as the tree, and no pair of its parentheses can be left out (P4.5).
func wantThereAndBack(t *testing.T, u api.Tree) {
	t.Helper()
	text, e := syntax.Print(u)
	if e == api.ErrText {
		return
	}
	got, m := syntax.Parse(text)
	if e != api.OK || m != (api.Mishap{}) || tell(got) != tell(u) || !syntax.Same(got, u) {
		t.Errorf("%s: %q %v, read as %s %v", tell(u), text, e, tell(got), m)
	}
	tokens, _ := lex.Tokens(text)
	var words []string
	for _, token := range tokens {
		words = append(words, token.Text)
	}
	for _, pair := range pairs(words) {
		if readAs(without(words, pair), u) {
			t.Errorf("%q: the parentheses at %v can be left out", text, pair)
		}
	}
}

func TestP43Examples(t *testing.T) {
	x, y := v("x"), v("y")
	wantText(t, lt(add(mul(2, x), num(3)), neg(y)), "2 * x + 3 < -y")
	wantText(t, of(api.TreeEq, sub(neg(mul(2, x)), add(y, num(1))), num()), "-2 * x - (y + 1) = 0")
	wantText(t, implies(or(below1("a"), and(below1("b"), not(below1("c")))), yes()), "a < 1 or b < 1 and not c < 1 implies true")
	wantText(t, some("x y", or(lt(x, y), all("z", divides(3, v("z"))))), "some x y . x < y or all z . 3 divides z")
	wantText(t, and(some("x", below1("x")), yes()), "(some x . x < 1) and true")
	wantText(t, and(yes(), some("x", below1("x"))), "true and some x . x < 1")
	wantText(t, or(not(some("x", below1("a"))), below1("b")), "not (some x . a < 1) or b < 1")
}

func TestP43EachKind(t *testing.T) {
	x, y := v("x"), v("y")
	for i, sign := range []string{"<", "<=", "=", "!=", ">=", ">"} {
		wantText(t, of(compares()[i], x, num()), "x "+sign+" 0")
	}
	wantText(t, yes(), "true")
	wantText(t, no(), "false")
	wantText(t, not(not(yes())), "not not true")
	wantText(t, lt(num(0, 0, 1), num(4294967295)), "18446744073709551616 < 4294967295")
	wantText(t, api.Tree{Kind: api.TreeDivides, N: n(0, 1), Kids: []api.Tree{sub(x, y)}}, "4294967296 divides x - y")
	wantText(t, divides(1, mul(0, mul(3, num()))), "1 divides 0 * 3 * 0")
	wantText(t, all("x x And x", yes()), "all x x And x . true")
	wantText(t, some("x", all("x", some("y", yes()))), "some x . all x . some y . true")
}

// A sum within a term has parentheses behind `-`, `*`, and on the right of `+` and `-`.
func TestP43Terms(t *testing.T) {
	x, y, z := v("x"), v("y"), v("z")
	for _, c := range []struct {
		u    api.Tree
		want string
	}{
		{add(add(x, y), z), "x + y + z"}, {add(x, add(y, z)), "x + (y + z)"}, {sub(sub(x, y), z), "x - y - z"}, {sub(x, sub(y, z)), "x - (y - z)"},
		{add(sub(x, y), z), "x - y + z"}, {sub(x, add(y, z)), "x - (y + z)"}, {add(x, sub(y, z)), "x + (y - z)"}, {sub(add(x, y), z), "x + y - z"},
		{neg(x), "-x"}, {neg(neg(x)), "--x"}, {neg(num(3)), "-3"}, {neg(add(x, y)), "-(x + y)"}, {neg(sub(x, y)), "-(x - y)"}, {neg(mul(2, x)), "-2 * x"},
		{neg(neg(sub(x, y))), "--(x - y)"}, {mul(2, x), "2 * x"}, {mul(2, mul(3, x)), "2 * 3 * x"}, {mul(2, neg(x)), "2 * -x"}, {mul(2, add(x, y)), "2 * (x + y)"},
		{mul(2, sub(x, y)), "2 * (x - y)"}, {mul(2, neg(add(x, y))), "2 * -(x + y)"}, {sub(x, neg(y)), "x - -y"}, {add(neg(x), neg(neg(y))), "-x + --y"},
		{sub(mul(2, x), mul(3, add(y, z))), "2 * x - 3 * (y + z)"}, {add(neg(add(x, y)), z), "-(x + y) + z"}, {sub(neg(x), num(1)), "-x - 1"},
	} {
		wantText(t, lt(c.u, num(1)), c.want+" < 1")
		wantText(t, lt(num(1), c.u), "1 < "+c.want)
		wantText(t, divides(2, c.u), "2 divides "+c.want)
		wantText(t, and(lt(c.u, c.u), yes()), c.want+" < "+c.want+" and true")
	}
}

func TestP43Connectives(t *testing.T) {
	a, b, c := below1("a"), below1("b"), below1("c")
	for _, k := range []struct {
		u    api.Tree
		want string
	}{
		{and(a, b, c), "a and b and c"}, {and(and(a, b), c), "(a and b) and c"}, {and(a, and(b, c)), "a and (b and c)"}, {and(or(a, b), c), "(a or b) and c"},
		{or(a, b, c), "a or b or c"}, {or(or(a, b), c), "(a or b) or c"}, {or(a, or(b, c)), "a or (b or c)"}, {or(a, and(b, c)), "a or b and c"}, {or(and(a, b), c), "a and b or c"},
		{implies(a, implies(b, c)), "a implies b implies c"}, {implies(implies(a, b), c), "(a implies b) implies c"}, {implies(or(a, b), and(b, c)), "a or b implies b and c"},
		{or(implies(a, b), c), "(a implies b) or c"}, {implies(a, iff(b, c)), "a implies (b iff c)"}, {implies(iff(a, b), c), "(a iff b) implies c"},
		{iff(iff(a, b), c), "a iff b iff c"}, {iff(a, iff(b, c)), "a iff (b iff c)"}, {iff(implies(a, b), implies(b, c)), "a implies b iff b implies c"}, {and(a, iff(b, c)), "a and (b iff c)"},
		{not(a), "not a"}, {not(and(a, b)), "not (a and b)"}, {not(or(a, b)), "not (a or b)"}, {not(implies(a, b)), "not (a implies b)"}, {not(iff(a, b)), "not (a iff b)"}, {and(not(a), not(not(b))), "not a and not not b"},
	} {
		want := strings.NewReplacer("a ", "a < 1 ", "b ", "b < 1 ", "c ", "c < 1 ", "a)", "a < 1)", "b)", "b < 1)", "c)", "c < 1)").Replace(k.want + " ")
		wantText(t, k.u, want[:len(want)-1])
	}
}

// A quantifier has parentheses of its own wherever a word stands behind it.
func TestP43Quantifiers(t *testing.T) {
	q := some("x", yes())
	for _, c := range []struct {
		u    api.Tree
		want string
	}{
		{q, "E"}, {not(q), "not E"}, {and(q, no()), "(E) and false"}, {and(no(), q), "false and E"}, {and(q, q), "(E) and E"}, {and(q, q, q), "(E) and (E) and E"},
		{or(not(q), no()), "not (E) or false"}, {or(no(), not(q)), "false or not E"}, {implies(q, q), "(E) implies E"}, {iff(q, q), "(E) iff E"}, {iff(iff(q, q), q), "(E) iff (E) iff E"},
		{implies(and(no(), q), no()), "false and (E) implies false"}, {implies(and(no(), not(not(q))), no()), "false and not not (E) implies false"},
		{and(or(no(), q), no()), "(false or E) and false"}, {and(or(q, no()), no()), "((E) or false) and false"}, {not(and(no(), q)), "not (false and E)"}, {or(not(and(no(), q)), no()), "not (false and E) or false"},
		{all("y", q), "all y . E"}, {and(all("y", q), no()), "(all y . E) and false"}, {all("y", and(q, no())), "all y . (E) and false"}, {and(all("y", and(q, q)), q), "(all y . (E) and E) and E"},
		{iff(q, iff(q, q)), "(E) iff ((E) iff E)"}, {implies(implies(no(), q), q), "(false implies E) implies E"}, {iff(implies(no(), q), no()), "false implies (E) iff false"},
	} {
		wantText(t, c.u, strings.ReplaceAll(c.want, "E", "some x . true"))
		wantText(t, some("z", c.u), "some z . "+strings.ReplaceAll(c.want, "E", "some x . true"))
	}
}

// A text of 4096 bytes is told, one of 4097 isn't.
func TestP43Length(t *testing.T) {
	row := and()
	for range 455 {
		row.Kids = append(row.Kids, yes())
	}
	for i := range 12 {
		row.Kids[i] = no()
		text, e := syntax.Print(row)
		switch size := 4091 + i; {
		case size <= mostBytes && (e != api.OK || len(text) != size):
			t.Error("bytes", len(text), e, size)
		case size > mostBytes && (e != api.ErrText || text != ""):
			t.Error("bytes", len(text), e, size)
		}
	}
	x := v("x")
	for size := mostBytes - 2; size <= mostBytes+2; size++ {
		long := num()
		for range size - len("x < ") {
			long.N = times10plus9(long.N)
		}
		text, e := syntax.Print(lt(x, long))
		if size <= mostBytes && (e != api.OK || text != "x < "+strings.Repeat("9", size-4)) || size > mostBytes && (e != api.ErrText || text != "") {
			t.Error("a number in a text of", size, "bytes", len(text), e)
		}
	}
	wantText(t, lt(x, over(58, x, neg)), "x < "+strings.Repeat("-", 58)+"x")
	some := some("x", yes())
	some.Names = strings.Fields(strings.Repeat("x ", (mostBytes-11)/2))
	if text, e := syntax.Print(some); len(text) != mostBytes-1 || e != api.OK {
		t.Error("names", len(text), e)
	}
	some.Names = append(some.Names, "x")
	if text, e := syntax.Print(some); text != "" || e != api.ErrText {
		t.Error("names", len(text), e)
	}
}

func times10plus9(k api.Int) api.Int {
	carry := uint64(9)
	var l []uint32
	for _, limb := range k.Mag {
		carry += uint64(limb) * 10
		l = append(l, uint32(carry))
		carry >>= 32
	}
	if carry > 0 {
		l = append(l, uint32(carry))
	}
	return api.Int{Mag: l}
}

// Check's error comes first.
func TestP43Order(t *testing.T) {
	row := and()
	for range 5000 {
		row.Kids = append(row.Kids, yes())
	}
	for _, c := range []struct {
		kid api.Tree
		e   api.Errno
	}{{yes(), api.ErrText}, {num(), api.ErrArg}, {divides(0, num()), api.ErrZero}, {over(mostDeep-1, yes(), not), api.ErrDepth}} {
		row.Kids[4999] = c.kid
		if text, e := syntax.Print(row); text != "" || e != c.e {
			t.Error(len(text), e, c.e)
		}
	}
}

// The text is the one that comes of leaving out parentheses one by one.
func TestP43Fewest(t *testing.T) {
	formulas(func(u api.Tree) {
		if len(whole(u)) > mostBytes {
			return
		}
		want := joined(fewest(u))
		if text, e := syntax.Print(u); text != want || e != api.OK {
			t.Errorf("Print(%s): %q %v, want %q", tell(u), text, e, want)
		}
	})
}

func TestP45ThereAndBack(t *testing.T) {
	count := 0
	formulas(func(u api.Tree) {
		count++
		wantThereAndBack(t, u)
	})
	if count < 3000 {
		t.Error("only", count, "formulas")
	}
}

// P4.6: blanks between any two words, parentheses about any formula.
func TestP46BlanksAndParentheses(t *testing.T) {
	formulas(func(u api.Tree) {
		text := whole(u)
		for _, s := range []string{text, crowded(u), strings.ReplaceAll(text, " ", " \n"), "((" + text + "))", "\t" + text + "\r"} {
			if got, m := syntax.Parse(s); len(s) <= mostBytes && (m != (api.Mishap{}) || tell(got) != tell(u)) {
				t.Errorf("Parse(%q): %s %v, want %s", s, tell(got), m, tell(u))
			}
		}
	})
}
