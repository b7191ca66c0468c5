package lex_test

import (
	"regexp"
	"strings"
	"testing"

	"riddle/api"
	"riddle/lex"
)

// The words are cut here a second time, by patterns, and their numbers reckoned digit by digit.

const (
	mostBytes = 4096
	mostName  = 24
)

var (
	blanksAhead = regexp.MustCompile(`^[ \t\n\r]*`)
	rowAhead    = regexp.MustCompile(`^[0-9A-Za-z][0-9A-Za-z_]*`)
	signAhead   = regexp.MustCompile(`^([<>!]=|[<>=+*.()-])`)
	wholeNumber = regexp.MustCompile(`^(0|[1-9][0-9]*)$`)
	wholeWord   = regexp.MustCompile(`^(and|or|not|implies|iff|some|all|true|false|divides)$`)
	wholeName   = regexp.MustCompile(`^[A-Za-z][0-9A-Za-z_]{0,23}$`)
)

// tenWords are those that are no names.
func tenWords() []string {
	return []string{"and", "or", "not", "implies", "iff", "some", "all", "true", "false", "divides"}
}

// cut is what a text's words are ahead of the first error, and that error.
func cut(text string) ([]lex.Token, api.Mishap) {
	if len(text) > mostBytes {
		return nil, api.Mishap{Code: api.ErrText}
	}
	var words []lex.Token
	for at := 0; ; {
		at += len(blanksAhead.FindString(text[at:]))
		if at == len(text) {
			return words, api.Mishap{}
		}
		word := firstWord(text[at:])
		switch {
		case word.Kind == 0 && text[at] >= '0' && text[at] <= '9':
			return words, api.Mishap{Code: api.ErrForm, At: at}
		case word.Kind == 0:
			return words, api.Mishap{Code: api.ErrWord, At: at}
		}
		word.At = at
		words = append(words, word)
		at += len(word.Text)
	}
}

// firstWord is of no kind, if there is none.
func firstWord(text string) lex.Token {
	row := rowAhead.FindString(text)
	sign := signAhead.FindString(text)
	switch {
	case wholeNumber.MatchString(row):
		return lex.Token{Kind: lex.Num, Text: row, N: api.Int{Mag: limbs(row)}}
	case wholeWord.MatchString(row):
		return lex.Token{Kind: lex.Word, Text: row}
	case wholeName.MatchString(row):
		return lex.Token{Kind: lex.Name, Text: row}
	case row == "" && sign != "":
		return lex.Token{Kind: lex.Sign, Text: sign}
	}
	return lex.Token{}
}

// limbs are those of a number of decimal digits.
func limbs(digits string) []uint32 {
	var l []uint32
	for i := range len(digits) {
		carry := uint64(digits[i] - '0')
		for j := range l {
			carry += uint64(l[j]) * 10
			l[j] = uint32(carry)
			carry >>= 32
		}
		if carry > 0 {
			l = append(l, uint32(carry))
		}
	}
	return l
}

func sameNumber(a, b api.Int) bool {
	if a.Neg != b.Neg || len(a.Mag) != len(b.Mag) {
		return false
	}
	for i := range a.Mag {
		if a.Mag[i] != b.Mag[i] {
			return false
		}
	}
	return true
}

func sameWord(a, b lex.Token) bool {
	return a.Kind == b.Kind && a.Text == b.Text && a.At == b.At && sameNumber(a.N, b.N)
}

func sameWords(a, b []lex.Token) bool {
	if len(a) != len(b) {
		return false
	}
	for i := range a {
		if !sameWord(a[i], b[i]) {
			return false
		}
	}
	return true
}

// gone are the words that Words goes over.
func gone(text string) []lex.Token {
	var words []lex.Token
	for word := range lex.Words(text) {
		words = append(words, word)
	}
	return words
}

// wantCut fails unless Tokens and Words answer what cut says.
func wantCut(t *testing.T, text string) {
	t.Helper()
	ahead, wrong := cut(text)
	if got := gone(text); !sameWords(got, ahead) {
		t.Errorf("Words(%q): %v, want %v", text, got, ahead)
	}
	if wrong.Code != api.OK {
		ahead = nil
	}
	if got, m := lex.Tokens(text); !sameWords(got, ahead) || m != wrong {
		t.Errorf("Tokens(%q): %v %v, want %v %v", text, got, m, ahead, wrong)
	}
}

// fromPieces calls f with every text that is made of up to most of the pieces.
func fromPieces(most int, pieces []string, f func(text string)) {
	f("")
	if most == 0 {
		return
	}
	for _, piece := range pieces {
		fromPieces(most-1, pieces, func(rest string) { f(piece + rest) })
	}
}

// dice are texts that look drawn, and are the same ones each time.
type dice struct{ state uint64 }

func (d *dice) below(n int) int {
	d.state = d.state*6364136223846793005 + 1442695040888963407
	return int(d.state>>33) % n
}

func goodPieces() []string {
	good := []string{
		"x", "X_9", "a_1", "And", "andy", "or_", "nota", "z__", strings.Repeat("n", mostName), "0", "1", "10", "4294967295", "4294967296",
		"18446744073709551616", "1" + strings.Repeat("0", 80), "<=", ">=", "!=", "<", ">", "=", "+", "-", "*", ".", "(", ")",
	}
	return append(good, tenWords()...)
}

func wrongPieces() []string {
	return []string{"007", "2x", "1_0", "_y", "_", "#", "!", "\x00", "\x80", "é", "\v", "\u00a0", "&", "/", ":", "@", "[", "`", "{", "~", strings.Repeat("n", mostName+1)}
}

// blanks are up to three of them.
func (d *dice) blanks() string {
	var b strings.Builder
	for range d.below(4) {
		b.WriteByte(" \t\n\r"[d.below(4)])
	}
	return b.String()
}

// text is one of some good pieces, and now and then of one that is wrong; rows may touch one another.
func (d *dice) text() string {
	good, wrong := goodPieces(), wrongPieces()
	var b strings.Builder
	for range d.below(12) {
		b.WriteString(d.blanks())
		if d.below(15) == 0 {
			b.WriteString(wrong[d.below(len(wrong))])
		} else {
			b.WriteString(good[d.below(len(good))])
		}
	}
	return b.String() + d.blanks()
}

// texts calls f with texts of all sorts.
func texts(f func(text string)) {
	for _, s := range append(goodPieces(), wrongPieces()...) {
		f(s)
	}
	d := &dice{state: 7}
	for range 4000 {
		f(d.text())
	}
	fromPieces(3, []string{" ", "0", "7", "a", "or", "_", "<", "=", "!", "-", "("}, f)
}
