package lex_test

import (
	"iter"
	"strings"
	"testing"

	"riddle/api"
	"riddle/lex"
)

// someTexts are of each sort: without words, without errors, with an error at the beginning, in the midst, at the end, and too
// long.
func someTexts() []string {
	return []string{
		"", " \n", "x", "2*x<=-10", "some x.not(3 divides x)", "#", "007 x", "x < 007", "x _y z", "a <= b !", "1 2 3 4294967296 5",
		strings.Repeat("x ", 2048), strings.Repeat("x ", 2048) + "x", strings.Repeat("(", 4095) + "#",
	}
}

func TestP32AheadOfTheError(t *testing.T) {
	for _, text := range someTexts() {
		want, _ := cut(text)
		if got := gone(text); !sameWords(got, want) {
			t.Errorf("Words(%q): %v, want %v", text, got, want)
		}
	}
	if got := gone("x < 007"); !sameWords(got, []lex.Token{name(0, "x"), sign(2, "<")}) {
		t.Error(got)
	}
	if got := gone(strings.Repeat("x ", 2049)); len(got) > 0 {
		t.Error("words of a text that is too long", got)
	}
}

func TestP32NeverNil(t *testing.T) {
	for _, text := range append(someTexts(), wrongPieces()...) {
		if lex.Words(text) == nil {
			t.Errorf("Words(%q): nil", text)
		}
	}
}

// Left behind each of its words, it tells no more than these, and can be ranged over again.
func TestP32LeftEarly(t *testing.T) {
	for _, text := range someTexts() {
		want, _ := cut(text)
		words := lex.Words(text)
		for n := 0; n < len(want); n += 1 + len(want)/50 {
			var got []lex.Token
			for word := range words {
				got = append(got, word)
				if len(got) > n {
					break
				}
			}
			if !sameWords(got, want[:n+1]) {
				t.Errorf("Words(%q), left behind %d: %v", text, n+1, got)
			}
		}
	}
}

// What says that it wants no more is not asked again.
func TestP32NotAskedAgain(t *testing.T) {
	for _, text := range someTexts() {
		want, _ := cut(text)
		most := min(len(want), 5)
		for n := 1; n <= most; n++ {
			asked := 0
			lex.Words(text)(func(lex.Token) bool { asked++; return asked < n })
			if asked != n {
				t.Errorf("Words(%q): asked %d times, wanted %d", text, asked, n)
			}
		}
	}
}

func TestP32Again(t *testing.T) {
	for _, text := range someTexts() {
		want, _ := cut(text)
		words := lex.Words(text)
		for range 3 {
			var got []lex.Token
			for word := range words {
				got = append(got, word)
			}
			if !sameWords(got, want) {
				t.Errorf("Words(%q), again: %v", text, got)
			}
		}
	}
}

func TestP32WithinItself(t *testing.T) {
	for _, text := range []string{"", "x", "2*x<=-10", "some x.not(3 divides x)", "x < 007", "1 2 4294967296 #"} {
		want, _ := cut(text)
		words := lex.Words(text)
		var outer []lex.Token
		for a := range words {
			outer = append(outer, a)
			var inner []lex.Token
			for b := range words {
				inner = append(inner, b)
				innermost := 0
				for range words {
					innermost++
					if innermost == 2 {
						break
					}
				}
			}
			if !sameWords(inner, want) {
				t.Errorf("Words(%q), within itself: %v", text, inner)
			}
		}
		if !sameWords(outer, want) {
			t.Errorf("Words(%q), about itself: %v", text, outer)
		}
	}
}

// Two ranges over one iterator may go on by turns, the one ahead of the other.
func TestP32ByTurns(t *testing.T) {
	for _, text := range []string{"2*x<=-10", "x < 007", "1 2 4294967296 #"} {
		want, _ := cut(text)
		words := lex.Words(text)
		first, stopFirst := iter.Pull(words)
		second, stopSecond := iter.Pull(words)
		first()
		for i := range want {
			ahead, ok := first()
			if ok != (i+1 < len(want)) || ok && !sameWord(ahead, want[i+1]) {
				t.Errorf("Words(%q), ahead: %v %t", text, ahead, ok)
			}
			if behind, ok := second(); !ok || !sameWord(behind, want[i]) {
				t.Errorf("Words(%q), behind: %v %t", text, behind, ok)
			}
		}
		if word, ok := second(); ok {
			t.Errorf("Words(%q): %v is too much", text, word)
		}
		stopFirst()
		stopSecond()
	}
}

// A range that a panic leaves spoils no later one.
func TestP32LeftByPanic(t *testing.T) {
	words := lex.Words("x < 1")
	func() {
		defer func() { recover() }()
		for range words {
			panic("left")
		}
	}()
	count := 0
	for range words {
		count++
	}
	if count != 3 {
		t.Error(count)
	}
}

// bare are words without their places.
func bare(words []lex.Token) []lex.Token {
	var l []lex.Token
	for _, w := range words {
		w.At = 0
		l = append(l, w)
	}
	return l
}

func TestP34JoinedByBlanks(t *testing.T) {
	count := 0
	texts(func(text string) {
		words, m := lex.Tokens(text)
		if m.Code != api.OK {
			return
		}
		count++
		var pieces []string
		for _, w := range words {
			pieces = append(pieces, w.Text)
		}
		for _, blank := range []string{" ", "\t", "\n", "\r"} {
			again, m := lex.Tokens(strings.Join(pieces, blank))
			if m != (api.Mishap{}) || !sameWords(bare(again), bare(words)) {
				t.Errorf("%q joined by %q: %v %v", pieces, blank, again, m)
			}
		}
	})
	if count < 1000 {
		t.Error("only", count, "texts without an error")
	}
}

func TestP34MoreBlanks(t *testing.T) {
	d := &dice{state: 11}
	texts(func(text string) {
		words, m := lex.Tokens(text)
		if m.Code != api.OK {
			return
		}
		var b strings.Builder
		from := 0
		var moved []lex.Token
		for _, w := range words {
			b.WriteString(text[from:w.At])
			b.WriteString(d.blanks())
			from = w.At
			w.At = b.Len()
			moved = append(moved, w)
		}
		b.WriteString(text[from:])
		b.WriteString(d.blanks())
		if again, m := lex.Tokens(b.String()); m != (api.Mishap{}) || !sameWords(again, moved) {
			t.Errorf("%q with blanks, %q: %v %v", text, b.String(), again, m)
		}
	})
}

func onlyBlanks(s string) bool { return strings.Trim(s, " \t\n\r") == "" }

func TestP35WordsAndBlanks(t *testing.T) {
	texts(func(text string) {
		words, m := lex.Tokens(text)
		if m.Code != api.OK {
			return
		}
		end := 0
		for _, w := range words {
			if w.Text == "" || w.At < end || w.At+len(w.Text) > len(text) || !onlyBlanks(text[end:w.At]) || text[w.At:w.At+len(w.Text)] != w.Text {
				t.Fatalf("%q: %v", text, words)
			}
			end = w.At + len(w.Text)
		}
		if !onlyBlanks(text[end:]) {
			t.Errorf("%q: %v, and more", text, words)
		}
	})
}

func TestP35AheadOfTheError(t *testing.T) {
	count := 0
	check := func(text string) {
		_, m := lex.Tokens(text)
		if m.Code == api.OK {
			return
		}
		count++
		if m.At < 0 || m.At >= len(text) {
			t.Fatalf("%q: %v", text, m)
		}
		ahead, none := lex.Tokens(text[:m.At])
		if none != (api.Mishap{}) || !sameWords(ahead, gone(text)) {
			t.Errorf("%q, ahead of %d: %v %v", text, m.At, ahead, none)
		}
	}
	texts(check)
	for _, text := range someTexts() {
		check(text)
	}
	if count < 1000 {
		t.Error("only", count, "texts with an error")
	}
}
