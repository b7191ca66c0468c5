package lex

import (
	"iter"
	"strings"

	"riddle/api"
	"riddle/nat"
)

// What the scanner is in is told by the byte that it looks at.
const (
	blank = iota
	digit
	letter
	underscore
	other
)

// signs has those of two bytes first: of `<=` the `<` would be a sign, too.
var signs = [...]string{"<=", ">=", "!=", "<", ">", "=", "+", "-", "*", ".", "(", ")"}

// scan goes over a text's words, and then over what is wrong, if something is. All is found anew in each range, so that
// no two have anything in common.
func scan(text string) iter.Seq2[Token, api.Mishap] {
	return func(yield func(Token, api.Mishap) bool) {
		if len(text) > api.MaxText {
			yield(Token{}, api.Mishap{Code: api.ErrText})
			return
		}
		for at := passBlanks(text, 0); at < len(text); {
			word, e := wordAt(text, at)
			if e != api.OK {
				yield(Token{}, api.Mishap{Code: e, At: at})
				return
			}
			if !yield(word, api.Mishap{}) {
				return
			}
			at = passBlanks(text, at+len(word.Text))
		}
	}
}

// passBlanks is the first place from at on where no blank stands.
func passBlanks(text string, at int) int {
	for at < len(text) && lookAt(text[at]) == blank {
		at++
	}
	return at
}

// wordAt is the word that begins at a place, where a byte stands that is no blank.
func wordAt(text string, at int) (Token, api.Errno) {
	switch lookAt(text[at]) {
	case digit:
		return number(rowOf(text[at:]), at)
	case letter:
		row := rowOf(text[at:])
		return plain(kindOf(row), row, at)
	}
	return plain(Sign, signOf(text[at:]), at)
}

// number is the word of a row that begins with a digit.
func number(row string, at int) (Token, api.Errno) {
	n, e := nat.Parse(row)
	if e != api.OK {
		return Token{}, api.ErrForm
	}
	return Token{Kind: Num, Text: row, N: api.Int{Mag: n}, At: at}, api.OK
}

// plain is a word that says no number; of no kind, or without a text, it is none.
func plain(kind int, text string, at int) (Token, api.Errno) {
	if kind == 0 || text == "" {
		return Token{}, api.ErrWord
	}
	return Token{Kind: kind, Text: text, At: at}, api.OK
}

// kindOf is what a row that begins with a letter is; 0, if it would be a name, but is too long.
func kindOf(row string) int {
	switch row {
	case "and", "or", "not", "implies", "iff", "some", "all", "true", "false", "divides":
		return Word
	}
	if len(row) > api.MaxName {
		return 0
	}
	return Name
}

// rowOf is the row that a text begins with.
func rowOf(text string) string {
	end := 0
	for end < len(text) && isRow(text[end]) {
		end++
	}
	return text[:end]
}

// signOf is the sign that a text begins with, or nothing.
func signOf(text string) string {
	for _, sign := range signs {
		if strings.HasPrefix(text, sign) {
			return sign
		}
	}
	return ""
}

func isRow(b byte) bool {
	switch lookAt(b) {
	case digit, letter, underscore:
		return true
	}
	return false
}

func lookAt(b byte) int {
	switch {
	case b == ' ' || b == '\t' || b == '\n' || b == '\r':
		return blank
	case '0' <= b && b <= '9':
		return digit
	case 'a' <= b && b <= 'z' || 'A' <= b && b <= 'Z':
		return letter
	case b == '_':
		return underscore
	}
	return other
}
