package syntax_test

import (
	"strings"
	"testing"

	"riddle/api"
	"riddle/syntax"
)

func TestP42Examples(t *testing.T) {
	x, y := v("x"), v("y")
	wantTree(t, "2 * x + 3 < -y", lt(add(mul(2, x), num(3)), neg(y)))
	wantTree(t, "-2*x-(y+1)=0", of(api.TreeEq, sub(neg(mul(2, x)), add(y, num(1))), num()))
	wantTree(t, "a < 1 or b < 1 and not c < 1 implies true", implies(or(below1("a"), and(below1("b"), not(below1("c")))), yes()))
	wantTree(t, "some x y . x < y or all z . 3 divides z", some("x y", or(lt(x, y), all("z", divides(3, v("z"))))))
	wantTree(t, "(some x . x < 1) and true", and(some("x", below1("x")), yes()))
	wantTree(t, "true and some x . (x < 1)", and(yes(), some("x", below1("x"))))
	wantTree(t, "x < (1)", below1("x"))
	wantMishap(t, "", api.ErrEnd, 0)
	wantMishap(t, "x", api.ErrEnd, 1)
	wantMishap(t, "x <", api.ErrEnd, 3)
	wantMishap(t, "x < 1 <", api.ErrSyntax, 6)
	wantMishap(t, "(x + 1) < 2", api.ErrSyntax, 6)
	wantMishap(t, "0 divides x", api.ErrZero, 0)
	wantMishap(t, "x divides 2", api.ErrSyntax, 2)
	wantMishap(t, "some . true", api.ErrSyntax, 5)
	wantMishap(t, "x < 1 true", api.ErrSyntax, 6)
	wantMishap(t, "some and . true", api.ErrSyntax, 5)
	wantTree(t, strings.Repeat("not ", 59)+"true", over(59, yes(), not))
	wantMishap(t, strings.Repeat("not ", 60)+"true", api.ErrDepth, 0)
}

func TestP42Blanks(t *testing.T) {
	for _, blanks := range []string{" ", "\t", "\n", "\r", " \t\r\n ", strings.Repeat(" ", 4096)} {
		wantMishap(t, blanks, api.ErrEnd, len(blanks))
	}
	wantTree(t, "\n x\t<\r\n1 ", below1("x"))
	wantMishap(t, "  x  ", api.ErrEnd, 5)
	wantMishap(t, " x < ( 1 \n", api.ErrEnd, 10)
}

func TestP42Compares(t *testing.T) {
	for i, sign := range []string{"<", "<=", "=", "!=", ">=", ">"} {
		wantTree(t, "x"+sign+"1", of(compares()[i], v("x"), num(1)))
		wantTree(t, "- x - 2 "+sign+" (1)", of(compares()[i], sub(neg(v("x")), num(2)), num(1)))
		wantMishap(t, sign+" 1", api.ErrSyntax, 0)
		wantMishap(t, "x "+sign+sign, api.ErrSyntax, 2+len(sign))
		wantMishap(t, "x "+sign+" 1 "+sign+" 2", api.ErrSyntax, 5+len(sign))
		wantMishap(t, "x "+sign, api.ErrEnd, 2+len(sign))
		wantMishap(t, "x "+sign+" true", api.ErrSyntax, 3+len(sign))
	}
}

// Every two connectives side by side: the one that binds more is the kid.
func TestP42Connectives(t *testing.T) {
	a, b, c := below1("a"), below1("b"), below1("c")
	words := map[int]string{api.TreeIff: " iff ", api.TreeImplies: " implies ", api.TreeOr: " or ", api.TreeAnd: " and "}
	weak := []int{api.TreeIff, api.TreeImplies, api.TreeOr, api.TreeAnd}
	for i, first := range weak {
		for j, second := range weak {
			want := of(first, a, of(second, b, c))
			switch {
			case i == j && (first == api.TreeAnd || first == api.TreeOr):
				want = of(first, a, b, c)
			case i > j, i == j && first == api.TreeIff:
				want = of(second, of(first, a, b), c)
			}
			wantTree(t, "a<1"+words[first]+"b<1"+words[second]+"c<1", want)
			wantTree(t, "(a<1"+words[first]+"b<1)"+words[second]+"c<1", of(second, of(first, a, b), c))
			wantTree(t, "a<1"+words[first]+"(b<1"+words[second]+"c<1)", of(first, a, of(second, b, c)))
			wantTree(t, "not a<1"+words[first]+"not not b<1", of(first, not(a), not(not(b))))
		}
		wantMishap(t, "a<1"+words[first], api.ErrEnd, 3+len(words[first]))
		wantMishap(t, words[first]+"a<1", api.ErrSyntax, 1)
		wantMishap(t, "a<1"+words[first]+words[first]+"b<1", api.ErrSyntax, 4+len(words[first]))
	}
	wantTree(t, "a<1 iff b<1 iff c<1 iff true", iff(iff(iff(a, b), c), yes()))
	wantTree(t, "a<1 implies b<1 implies c<1 implies true", implies(a, implies(b, implies(c, yes()))))
	wantTree(t, "a<1 or b<1 or c<1 or true", or(a, b, c, yes()))
	wantTree(t, "a<1 and b<1 and c<1 and true", and(a, b, c, yes()))
	wantTree(t, "(a<1 or b<1) or c<1 or (true or false)", or(or(a, b), c, or(yes(), no())))
	wantTree(t, "a<1 and b<1 or a<1 and b<1 and c<1 or c<1", or(and(a, b), and(a, b, c), c))
}

// What a quantifier binds goes on as far as it can.
func TestP42Quantifiers(t *testing.T) {
	a, b, c := below1("a"), below1("b"), below1("c")
	for _, word := range []string{"some", "all"} {
		q := some
		if word == "all" {
			q = all
		}
		wantTree(t, word+" x . a<1 or b<1", q("x", or(a, b)))
		wantTree(t, word+" x.a<1 iff b<1 implies c<1", q("x", iff(a, implies(b, c))))
		wantTree(t, "a<1 and "+word+" x . b<1 and c<1", and(a, q("x", and(b, c))))
		wantTree(t, "a<1 and "+word+" x . b<1 iff c<1", and(a, q("x", iff(b, c))))
		wantTree(t, "a<1 implies "+word+" x . b<1 implies c<1", implies(a, q("x", implies(b, c))))
		wantTree(t, "not "+word+" x . a<1 or b<1", not(q("x", or(a, b))))
		wantTree(t, "not ("+word+" x . a<1) or b<1", or(not(q("x", a)), b))
		wantTree(t, "("+word+" x . a<1) or b<1", or(q("x", a), b))
		wantTree(t, "(a<1 or "+word+" x . b<1) and c<1", and(or(a, q("x", b)), c))
		wantTree(t, word+" x x y x . "+word+" x . a<1", q("x x y x", q("x", a)))
		wantMishap(t, word, api.ErrEnd, len(word))
		wantMishap(t, word+" x", api.ErrEnd, len(word)+2)
		wantMishap(t, word+" x .", api.ErrEnd, len(word)+4)
		wantMishap(t, word+" x true", api.ErrSyntax, len(word)+3)
		wantMishap(t, word+" x , true", api.ErrWord, len(word)+3)
		wantMishap(t, word+" 1 . true", api.ErrSyntax, len(word)+1)
		wantMishap(t, word+" x 1 . true", api.ErrSyntax, len(word)+3)
		wantMishap(t, word+" x . . true", api.ErrSyntax, len(word)+5)
		wantMishap(t, word+" x . x", api.ErrEnd, len(word)+6)
		wantMishap(t, word+" x . (true", api.ErrEnd, len(word)+10)
		wantMishap(t, word+" true . true", api.ErrSyntax, len(word)+1)
	}
}

func TestP42Terms(t *testing.T) {
	x, y, z := v("x"), v("y"), v("z")
	right := func(text string, want api.Tree) {
		t.Helper()
		wantTree(t, "0 = "+text, of(api.TreeEq, num(), want))
		wantTree(t, "3 divides "+text, divides(3, want))
		wantTree(t, "0 = ("+text+")", of(api.TreeEq, num(), want))
	}
	both := func(text string, want api.Tree) {
		t.Helper()
		right(text, want)
		wantTree(t, text+" = 0", of(api.TreeEq, want, num()))
	}
	both("x + y - z + 1", add(sub(add(x, y), z), num(1)))
	both("x - (y - z) - 1", sub(sub(x, sub(y, z)), num(1)))
	both("x + (y + z)", add(x, add(y, z)))
	both("-x - -y", sub(neg(x), neg(y)))
	both("--x", neg(neg(x)))
	both("-(x + y) + z", add(neg(add(x, y)), z))
	both("2 * x + y", add(mul(2, x), y))
	both("2 * (x + y)", mul(2, add(x, y)))
	both("2 * 3 * x", mul(2, mul(3, x)))
	both("2 * -3", mul(2, neg(num(3))))
	both("-2 * x", neg(mul(2, x)))
	both("-2 * -x - 5 * 6", sub(neg(mul(2, neg(x))), mul(5, num(6))))
	both("0 * 0", mul(0, num()))
	both("18446744073709551616 * x", api.Tree{Kind: api.TreeMul, N: n(0, 0, 1), Kids: []api.Tree{x}})
	both("4294967296", num(0, 1))
	right("(x)", x)
	right("((x + y)) - (((z)))", sub(add(x, y), z))
	right("(2 * x) + (-y)", add(mul(2, x), neg(y)))
	wantMishap(t, "0 = x * 2", api.ErrSyntax, 6)
	wantMishap(t, "0 = (2) * x", api.ErrSyntax, 8)
	wantMishap(t, "0 = 2 x", api.ErrSyntax, 6)
	wantMishap(t, "0 = x y", api.ErrSyntax, 6)
	wantMishap(t, "0 = + x", api.ErrSyntax, 4)
	wantMishap(t, "0 = x + + y", api.ErrSyntax, 8)
	wantMishap(t, "0 = (x < y)", api.ErrSyntax, 7)
	wantMishap(t, "0 = ()", api.ErrSyntax, 5)
	wantMishap(t, "0 = (x", api.ErrEnd, 6)
	wantMishap(t, "0 = 2 *", api.ErrEnd, 7)
	wantMishap(t, "0 = -", api.ErrEnd, 5)
	wantMishap(t, "(x) = 0", api.ErrSyntax, 2)
	wantMishap(t, "x", api.ErrEnd, 1)
	wantMishap(t, "((x) = 0)", api.ErrSyntax, 3)
}

// ErrZero is told at a 0 that would divide; elsewhere a word `divides` can't stand.
func TestP42Zero(t *testing.T) {
	wantMishap(t, "0 divides", api.ErrZero, 0)
	wantMishap(t, "0 divides )", api.ErrZero, 0)
	wantMishap(t, "  0\ndivides x", api.ErrZero, 2)
	wantMishap(t, "true and not 0 divides x", api.ErrZero, 13)
	wantMishap(t, "some x . (0 divides x)", api.ErrZero, 10)
	wantMishap(t, "(0 divides x", api.ErrZero, 1)
	wantMishap(t, "0 divides x and 0 divides y", api.ErrZero, 0)
	wantMishap(t, "1 divides 0 and 0 divides y", api.ErrZero, 16)
	wantMishap(t, "true true 0 divides x", api.ErrSyntax, 5)
	wantMishap(t, "0 divides x true true", api.ErrZero, 0)
	wantMishap(t, "x < 0 divides y", api.ErrSyntax, 6)
	wantMishap(t, "-0 divides y", api.ErrSyntax, 3)
	wantMishap(t, "2 * 0 divides y", api.ErrSyntax, 6)
	wantMishap(t, "3 divides 0 divides y", api.ErrSyntax, 12)
	wantMishap(t, "-1 divides y", api.ErrSyntax, 3)
	wantMishap(t, "(1) divides y", api.ErrSyntax, 2)
	wantTree(t, "1 divides 0", divides(1, num()))
	wantTree(t, "0 < 0", lt(num(), num()))
	wantMishap(t, "0", api.ErrEnd, 1)
}

func TestP42Parentheses(t *testing.T) {
	for _, c := range []struct {
		text string
		e    api.Errno
		at   int
	}{
		{"(", api.ErrEnd, 1}, {")", api.ErrSyntax, 0}, {"()", api.ErrSyntax, 1}, {"(true", api.ErrEnd, 5}, {"true)", api.ErrSyntax, 4},
		{"((true)", api.ErrEnd, 7}, {"(true))", api.ErrSyntax, 6}, {"(true) (true)", api.ErrSyntax, 7}, {"true (", api.ErrSyntax, 5},
		{"not", api.ErrEnd, 3}, {"not not", api.ErrEnd, 7}, {"not )", api.ErrSyntax, 4}, {"true not", api.ErrSyntax, 5}, {"(true) < 1", api.ErrSyntax, 7},
		{".", api.ErrSyntax, 0}, {"*", api.ErrSyntax, 0}, {"divides", api.ErrSyntax, 0}, {"+", api.ErrSyntax, 0}, {"-", api.ErrEnd, 1}, {"1", api.ErrEnd, 1},
	} {
		wantMishap(t, c.text, c.e, c.at)
	}
	wantTree(t, "((((true))))", yes())
	wantTree(t, "(((x < 1) and ((true))))", and(below1("x"), yes()))
}

// The errors are asked in their order: too long, no words, no formula, too deep.
func TestP42Order(t *testing.T) {
	nots := strings.Repeat("not ", 60)
	wantMishap(t, strings.Repeat("#", 4097), api.ErrText, 0)
	wantMishap(t, strings.Repeat("(", 4097), api.ErrText, 0)
	wantMishap(t, "x < < 007", api.ErrForm, 6)
	wantMishap(t, "0 divides #", api.ErrWord, 10)
	wantMishap(t, "x < 2x", api.ErrForm, 4)
	wantMishap(t, "x _y", api.ErrWord, 2)
	wantMishap(t, ") ) "+strings.Repeat("n", 25), api.ErrWord, 4)
	wantMishap(t, nots+"true true", api.ErrSyntax, 245)
	wantMishap(t, nots+"0 divides x", api.ErrZero, 240)
	wantMishap(t, nots+"#", api.ErrWord, 240)
	wantMishap(t, nots, api.ErrEnd, 240)
	wantMishap(t, nots+"(true", api.ErrEnd, 245)
}

func TestP42Length(t *testing.T) {
	for _, text := range []string{"x<1", "true", "some x . x < 1 or 3 divides x"} {
		want, _ := syntax.Parse(text)
		room := strings.Repeat(" ", mostBytes-len(text))
		wantTree(t, text+room, want)
		wantTree(t, room+text, want)
		wantMishap(t, text+room+" ", api.ErrText, 0)
		wantMishap(t, " "+room+text, api.ErrText, 0)
	}
	wantMishap(t, strings.Repeat("(", mostBytes), api.ErrEnd, mostBytes)
	wantMishap(t, strings.Repeat("not ", mostBytes/4), api.ErrEnd, mostBytes)
	wantMishap(t, strings.Repeat("-", mostBytes), api.ErrEnd, mostBytes)
	wantMishap(t, "true"+strings.Repeat(")", mostBytes-4), api.ErrSyntax, 4)
	wantTree(t, strings.Repeat("(", 2046)+"true"+strings.Repeat(")", 2046), yes())
	wantTree(t, "1="+strings.Repeat("(", 2046)+"x"+strings.Repeat(")", 2046), of(api.TreeEq, num(1), v("x")))
	wantMishap(t, strings.Repeat("(", 2046)+"true"+strings.Repeat(")", 2045), api.ErrEnd, 4095)
	wantTree(t, "x<1"+strings.Repeat(" ", 3)+strings.Repeat("\n", mostBytes-6), below1("x"))
	wantMishap(t, strings.Repeat("n", mostBytes), api.ErrWord, 0)
	many := strings.Repeat("9", mostBytes-2)
	if u, m := syntax.Parse("1<" + many); m != (api.Mishap{}) || tell(u) != tell(lt(num(1), num(u.Kids[1].N.Mag...))) || digits(u.Kids[1].N) != many {
		t.Error("a number of many digits", m)
	}
}

func TestP42Depth(t *testing.T) {
	repeat := strings.Repeat
	for _, c := range []struct {
		text string
		deep int
	}{
		{repeat("some x . ", 58) + "true", 59}, {repeat("all x . ", 59) + "true", 60}, {repeat("all x . ", 60) + "true", 61},
		{"true" + repeat(" iff true", 59), 60}, {"true" + repeat(" iff true", 60), 61},
		{repeat("true implies ", 59) + "true", 60}, {repeat("true implies ", 60) + "true", 61},
		{"true" + repeat(" or true", 400), 2}, {"true" + repeat(" and true", 400), 2},
		{"x < x" + repeat(" + x", 58), 60}, {"x < x" + repeat(" + x", 59), 61}, {"x" + repeat(" - x", 58) + " < x", 60}, {"x" + repeat(" - x", 59) + " < x", 61},
		{"x < " + repeat("-", 58) + "x", 60}, {"x < " + repeat("-", 59) + "x", 61}, {"x < " + repeat("2*", 58) + "x", 60}, {"2 divides " + repeat("2*", 59) + "x", 61},
		{"x < " + repeat("x-(", 58) + "x" + repeat(")", 58), 60}, {"x < " + repeat("x-(", 59) + "x" + repeat(")", 59), 61},
		{repeat("(true or ", 59) + "true" + repeat(")", 59), 60}, {repeat("(true or ", 60) + "true" + repeat(")", 60), 61},
		{repeat("not ", 57) + "x < 1", 59}, {repeat("not ", 58) + "x < 1", 60}, {repeat("not ", 59) + "x < 1", 61}, {repeat("not ", 1000) + "true", 1001},
	} {
		u, m := syntax.Parse(c.text)
		switch {
		case c.deep > mostDeep:
			wantMishap(t, c.text, api.ErrDepth, 0)
		case m != (api.Mishap{}) || depth(u) != c.deep:
			t.Errorf("Parse(%q): depth %d, %v, want %d", c.text, depth(u), m, c.deep)
		}
	}
}

// P4.5: what is answered may be.
func TestP45PassesCheck(t *testing.T) {
	formulas(func(u api.Tree) {
		for _, text := range []string{whole(u), crowded(u)} {
			got, m := syntax.Parse(text)
			if len(text) > mostBytes || m.Code == api.OK && syntax.Check(got) == api.OK && checked(got) == api.OK {
				continue
			}
			t.Errorf("Parse(%q): %s %v, Check %v", text, tell(got), m, syntax.Check(got))
		}
	})
}
