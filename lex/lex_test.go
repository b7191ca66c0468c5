package lex_test

import (
	"strings"
	"testing"

	"riddle/api"
	"riddle/lex"
)

func num(at int, text string, mag ...uint32) lex.Token {
	return lex.Token{Kind: lex.Num, Text: text, N: api.Int{Mag: mag}, At: at}
}

func name(at int, text string) lex.Token { return lex.Token{Kind: lex.Name, Text: text, At: at} }
func word(at int, text string) lex.Token { return lex.Token{Kind: lex.Word, Text: text, At: at} }
func sign(at int, text string) lex.Token { return lex.Token{Kind: lex.Sign, Text: text, At: at} }

// wantWords fails unless a text has just these words, and no error.
func wantWords(t *testing.T, text string, want ...lex.Token) {
	t.Helper()
	if got, m := lex.Tokens(text); !sameWords(got, want) || m != (api.Mishap{}) {
		t.Errorf("Tokens(%q): %v %v, want %v", text, got, m, want)
	}
	if got := gone(text); !sameWords(got, want) {
		t.Errorf("Words(%q): %v, want %v", text, got, want)
	}
}

// wantWrong fails unless a text has this error first, and so many words ahead of it.
func wantWrong(t *testing.T, text string, e api.Errno, at, ahead int) {
	t.Helper()
	if got, m := lex.Tokens(text); len(got) > 0 || m != (api.Mishap{Code: e, At: at}) {
		t.Errorf("Tokens(%q): %v %v, want %v at %d", text, got, m, e, at)
	}
	if got := gone(text); len(got) != ahead {
		t.Errorf("Words(%q): %v, want %d", text, got, ahead)
	}
}

func TestKinds(t *testing.T) {
	if lex.Num != 1 || lex.Name != 2 || lex.Word != 3 || lex.Sign != 4 {
		t.Error(lex.Num, lex.Name, lex.Word, lex.Sign)
	}
}

func TestP31Examples(t *testing.T) {
	wantWords(t, "2*x<=-10", num(0, "2", 2), sign(1, "*"), name(2, "x"), sign(3, "<="), sign(5, "-"), num(6, "10", 10))
	wantWords(t, "some x.not(3 divides x)", word(0, "some"), name(5, "x"), sign(6, "."), word(7, "not"), sign(10, "("), num(11, "3", 3),
		word(13, "divides"), name(21, "x"), sign(22, ")"))
	wantWords(t, "a_1 And x!==1", name(0, "a_1"), name(4, "And"), name(8, "x"), sign(9, "!="), sign(11, "="), num(12, "1", 1))
	wantWords(t, "")
	wantWrong(t, "x < 007", api.ErrForm, 4, 2)
	wantWrong(t, "2x", api.ErrForm, 0, 0)
	wantWrong(t, "x _y", api.ErrWord, 2, 1)
	wantWrong(t, "x # y", api.ErrWord, 2, 1)
	wantWrong(t, "a!b", api.ErrWord, 1, 1)
	wantWrong(t, strings.Repeat("a", 25), api.ErrWord, 0, 0)
}

func TestP31Blanks(t *testing.T) {
	for _, blanks := range []string{" ", "\t", "\n", "\r", "\r\n", "  ", " \t\n\r \t"} {
		n := len(blanks)
		wantWords(t, blanks)
		wantWords(t, blanks+"x", name(n, "x"))
		wantWords(t, "x"+blanks, name(0, "x"))
		wantWords(t, blanks+"x"+blanks+"y"+blanks, name(n, "x"), name(2*n+1, "y"))
		wantWords(t, "1"+blanks+"0", num(0, "1", 1), num(n+1, "0"))
		wantWords(t, "<"+blanks+"=", sign(0, "<"), sign(n+1, "="))
		wantWrong(t, "!"+blanks+"=", api.ErrWord, 0, 0)
		wantWrong(t, blanks+"#"+blanks, api.ErrWord, n, 0)
	}
	for _, none := range []string{"\v", "\f", "\b", "\x00", "\x1f", "\x7f", "\x85", "\xa0", "\u00a0", "\u2003", "\ufeff"} {
		wantWrong(t, none, api.ErrWord, 0, 0)
		wantWrong(t, "x "+none+"y", api.ErrWord, 2, 1)
	}
}

// Each byte, and each two, alone and between words.
func TestP31EachByte(t *testing.T) {
	for a := range 256 {
		wantCut(t, string([]byte{byte(a)}))
		for b := range 256 {
			wantCut(t, string([]byte{byte(a), byte(b)}))
		}
		for _, c := range []string{"x", "7", "_", "<", "=", "!", " ", "or"} {
			wantCut(t, c+string([]byte{byte(a)})+c)
		}
	}
}

func TestP31ShortTexts(t *testing.T) {
	pieces := []string{" ", "\n", "0", "1", "a", "Z", "_", "<", ">", "=", "!", "-", ".", "or", "#"}
	fromPieces(4, pieces, func(text string) { wantCut(t, text) })
}

func TestP31Texts(t *testing.T) {
	texts(func(text string) { wantCut(t, text) })
}

func TestP31LongTexts(t *testing.T) {
	for _, piece := range []string{" ", "\n", "(", "x ", "1", "9 ", "<=", "and ", "x+1<", "#", "a", "é"} {
		room := strings.Repeat(piece, mostBytes/len(piece)+1)
		wantCut(t, room[:mostBytes-1])
		wantCut(t, room[:mostBytes])
		wantWrong(t, room[:mostBytes]+" ", api.ErrText, 0, 0)
		wantWrong(t, room[:mostBytes]+"#", api.ErrText, 0, 0)
		wantWrong(t, "#"+room[:mostBytes], api.ErrText, 0, 0)
		wantWrong(t, strings.Repeat(room, 3), api.ErrText, 0, 0)
	}
	if got, m := lex.Tokens(strings.Repeat("(", mostBytes)); len(got) != mostBytes || got[mostBytes-1].At != mostBytes-1 || m.Code != api.OK {
		t.Error("words that fill the text", len(got), m)
	}
	wantWords(t, strings.Repeat(" ", mostBytes-1)+"x", name(mostBytes-1, "x"))
	wantWrong(t, strings.Repeat(" ", mostBytes-1)+"#", api.ErrWord, mostBytes-1, 0)
	wantWrong(t, strings.Repeat("a", mostBytes), api.ErrWord, 0, 0)
}

func TestP31TheTenWords(t *testing.T) {
	for _, w := range tenWords() {
		great := strings.ToUpper(w[:1]) + w[1:]
		last := w[:len(w)-1] + strings.ToUpper(w[len(w)-1:])
		wantWords(t, w, word(0, w))
		wantWords(t, "("+w+")", sign(0, "("), word(1, w), sign(len(w)+1, ")"))
		wantWords(t, w+" "+w, word(0, w), word(len(w)+1, w))
		for _, n := range []string{w + w, w + "s", w + "_", w + "0", "x" + w, w[:len(w)-1] + "x", great, last, strings.ToUpper(w), w[:1]} {
			wantWords(t, n, name(0, n))
		}
		wantWrong(t, "1"+w, api.ErrForm, 0, 0)
		wantWrong(t, "_"+w, api.ErrWord, 0, 0)
		wantWords(t, w+"=", word(0, w), sign(len(w), "="))
	}
	for _, n := range []string{"xor", "exists", "forall", "if", "then", "mod", "nor", "nand", "se", "an", "ands"} {
		wantWords(t, n, name(0, n))
	}
}

func TestP31Names(t *testing.T) {
	for _, n := range []string{"a", "z", "A", "Z", "a0", "z9", "a_", "A__0", "x_y_z", "aZ09_", "O0", "e10"} {
		wantWords(t, n, name(0, n))
		wantWords(t, n+"+"+n, name(0, n), sign(len(n), "+"), name(len(n)+1, n))
	}
	for _, c := range []string{"a", "_", "7", "Z", "nd"} {
		long := "a" + strings.Repeat(c, mostName)
		wantWords(t, long[:mostName], name(0, long[:mostName]))
		wantWords(t, " "+long[:mostName]+"<", name(1, long[:mostName]), sign(mostName+1, "<"))
		wantWrong(t, long[:mostName+1], api.ErrWord, 0, 0)
		wantWrong(t, "x < "+long[:mostName+1]+" ", api.ErrWord, 4, 2)
	}
	// A word's letters ahead don't shorten a name.
	wantWrong(t, "divides"+strings.Repeat("s", mostName), api.ErrWord, 0, 0)
	for _, s := range []string{"_", "_y", "__", "_1", "_and", "_ x"} {
		wantWrong(t, s, api.ErrWord, 0, 0)
		wantWrong(t, "x "+s, api.ErrWord, 2, 1)
		wantWrong(t, "<"+s, api.ErrWord, 1, 1)
	}
}

func TestP31Signs(t *testing.T) {
	for _, s := range []string{"<=", ">=", "!=", "<", ">", "=", "+", "-", "*", ".", "(", ")"} {
		wantWords(t, s, sign(0, s))
		wantWords(t, "x"+s+"y", name(0, "x"), sign(1, s), name(len(s)+1, "y"))
		wantWords(t, "1"+s+"1", num(0, "1", 1), sign(1, s), num(len(s)+1, "1", 1))
		wantWords(t, s+" "+s, sign(0, s), sign(len(s)+1, s))
	}
	wantWords(t, "<==", sign(0, "<="), sign(2, "="))
	wantWords(t, "==", sign(0, "="), sign(1, "="))
	wantWords(t, "=<", sign(0, "="), sign(1, "<"))
	wantWords(t, "=>=", sign(0, "="), sign(1, ">="))
	wantWords(t, "<>", sign(0, "<"), sign(1, ">"))
	wantWords(t, "<<=>>=", sign(0, "<"), sign(1, "<="), sign(3, ">"), sign(4, ">="))
	wantWords(t, "!=!=", sign(0, "!="), sign(2, "!="))
	wantWords(t, "*=", sign(0, "*"), sign(1, "="))
	wantWords(t, "--1", sign(0, "-"), sign(1, "-"), num(2, "1", 1))
	wantWrong(t, "!", api.ErrWord, 0, 0)
	wantWrong(t, "!!=", api.ErrWord, 0, 0)
	wantWrong(t, "=!", api.ErrWord, 1, 1)
	wantWrong(t, "<=!<", api.ErrWord, 2, 1)
	wantWrong(t, "x !", api.ErrWord, 2, 1)
	wantWrong(t, "≤", api.ErrWord, 0, 0)
}

func TestP31Numbers(t *testing.T) {
	wantWords(t, "0", num(0, "0"))
	wantWords(t, "0 0", num(0, "0"), num(2, "0"))
	wantWords(t, "4294967295", num(0, "4294967295", 1<<32-1))
	wantWords(t, "4294967296", num(0, "4294967296", 0, 1))
	wantWords(t, "(18446744073709551615)", sign(0, "("), num(1, "18446744073709551615", 1<<32-1, 1<<32-1), sign(21, ")"))
	wantWords(t, "18446744073709551616", num(0, "18446744073709551616", 0, 0, 1))
	wantWords(t, "1.5", num(0, "1", 1), sign(1, "."), num(2, "5", 5))
	wantWords(t, "-7", sign(0, "-"), num(1, "7", 7))
	for _, n := range []int{24, 25, 80, 617, 4096} {
		for _, digits := range []string{strings.Repeat("9", n), "1" + strings.Repeat("0", n-1), strings.Repeat("1234567890", n)[:n]} {
			wantWords(t, digits, num(0, digits, limbs(digits)...))
		}
	}
	for _, s := range []string{"007", "00", "01", "0x1", "0_", "1_000", "2x", "1e5", "9and", "0" + strings.Repeat("1", 50), strings.Repeat("1", 50) + "a", "12_"} {
		wantWrong(t, s, api.ErrForm, 0, 0)
		wantWrong(t, "x < "+s, api.ErrForm, 4, 2)
		wantWrong(t, "("+s+")", api.ErrForm, 1, 1)
	}
}

// Of several errors the first one counts, whatever the others are.
func TestP31FirstError(t *testing.T) {
	wantWrong(t, "x # 007", api.ErrWord, 2, 1)
	wantWrong(t, "x 007 #", api.ErrForm, 2, 1)
	wantWrong(t, "##", api.ErrWord, 0, 0)
	wantWrong(t, "\t1 + 2x + 3y", api.ErrForm, 5, 2)
	wantWrong(t, "a!b!c", api.ErrWord, 1, 1)
	wantWrong(t, "x < 1 and y _z 00 #", api.ErrWord, 12, 5)
	wantWrong(t, "xé", api.ErrWord, 1, 1)
	wantWrong(t, "7é", api.ErrWord, 1, 1)
	wantWrong(t, "and\xff", api.ErrWord, 3, 1)
	wantWrong(t, "(((((((((((((((((((((((1_", api.ErrForm, 23, 23)
	for _, first := range wrongPieces() {
		for _, second := range wrongPieces() {
			wantCut(t, "a <= "+first+" "+second)
			wantCut(t, first+" "+second)
		}
	}
}

func TestP33Examples(t *testing.T) {
	for s, want := range map[string]bool{"x": true, "X_9": true, "and": false, "AND": true, "9": false, "_a": false, "": false, "a b": false} {
		if lex.IsName(s) != want {
			t.Errorf("IsName(%q): %t", s, !want)
		}
	}
}

func TestP33Edges(t *testing.T) {
	for _, w := range tenWords() {
		if lex.IsName(w) || !lex.IsName(w+w) || !lex.IsName(strings.ToUpper(w)) || !lex.IsName(w+"_") || lex.IsName(w+" ") || lex.IsName(" "+w) {
			t.Errorf("IsName of the like of %q", w)
		}
	}
	for _, c := range []string{"a", "_", "0", "Q"} {
		for n := range 60 {
			s := "b" + strings.Repeat(c, n)
			if lex.IsName(s) != (len(s) <= mostName) {
				t.Errorf("IsName(%q): %t", s, lex.IsName(s))
			}
		}
	}
	for _, s := range []string{" x", "x ", "x\n", "x y", "x+y", "x.", "(x)", "-x", "0x", "1", "_", "__", "é", "xé", "x\x00", "x\x80", "ﬁ", "<=", "=", "!", "007"} {
		if lex.IsName(s) {
			t.Errorf("IsName(%q): true", s)
		}
	}
	for _, s := range []string{strings.Repeat("a", 4096), strings.Repeat("a", 5000), strings.Repeat(" ", 5000), "a" + strings.Repeat(" ", 1<<20)} {
		if lex.IsName(s) {
			t.Errorf("IsName of %d bytes: true", len(s))
		}
	}
}

func TestP33EachByte(t *testing.T) {
	for a := range 256 {
		b := byte(a)
		isLetter := b >= 'a' && b <= 'z' || b >= 'A' && b <= 'Z'
		if got := lex.IsName(string([]byte{b})); got != isLetter {
			t.Errorf("IsName of the byte %d: %t", a, got)
		}
		isMore := isLetter || b >= '0' && b <= '9' || b == '_'
		if got := lex.IsName(string([]byte{'k', b})); got != isMore {
			t.Errorf("IsName of k and the byte %d: %t", a, got)
		}
		if got := lex.IsName(string([]byte{'k', b, 'k'})); got != isMore {
			t.Errorf("IsName of k, the byte %d and k: %t", a, got)
		}
	}
}

// A name is what is one word as a whole, of that kind.
func TestP33NamesAreWords(t *testing.T) {
	texts(func(text string) {
		l, _ := lex.Tokens(text)
		want := len(l) == 1 && l[0].Kind == lex.Name && l[0].Text == text
		if lex.IsName(text) != want {
			t.Errorf("IsName(%q): %t", text, !want)
		}
	})
}
