package lex_test

import (
	"strings"
	"sync"
	"testing"

	"riddle/api"
	"riddle/lex"
)

const numbers = "0 7 7 4294967296 4294967296 x < 340282366920938463463374607431768211456 + 7"

// scribble writes over the limbs of a word's number, and all their spare room.
func scribble(w lex.Token) {
	l := w.N.Mag[:cap(w.N.Mag)]
	for i := range l {
		l[i] = 0x5555
	}
}

// room is a copy of a number's limbs with their spare room.
func room(w lex.Token) []uint32 {
	return append([]uint32(nil), w.N.Mag[:cap(w.N.Mag)]...)
}

func TestR3NumbersAreApart(t *testing.T) {
	words, _ := lex.Tokens(numbers)
	for i := range words {
		var left [][]uint32
		for _, w := range words {
			left = append(left, room(w))
		}
		scribble(words[i])
		for j := range words {
			if j != i && !sameNumber(api.Int{Mag: room(words[j])}, api.Int{Mag: left[j]}) {
				t.Errorf("the numbers at %d and %d share memory", i, j)
			}
		}
	}
}

func TestR3AnswersAreNew(t *testing.T) {
	want, _ := cut(numbers)
	for range 3 {
		words, _ := lex.Tokens(numbers)
		if !sameWords(words, want) {
			t.Fatal(words)
		}
		whole := words[:cap(words)]
		for i := range whole {
			scribble(whole[i])
			whole[i] = lex.Token{Kind: 9, Text: "spoilt", At: -1}
		}
	}
	first, _ := lex.Tokens(numbers)
	second, _ := lex.Tokens(numbers)
	for i := range first {
		scribble(first[i])
		first[i].Text = "spoilt"
	}
	if !sameWords(second, want) {
		t.Error("two answers share memory", second)
	}
}

func TestR3RangesAreApart(t *testing.T) {
	want, _ := cut(numbers)
	words := lex.Words(numbers)
	for range 3 {
		i := 0
		for w := range words {
			if !sameWord(w, want[i]) {
				t.Errorf("%v, want %v", w, want[i])
			}
			for v := range words {
				scribble(v)
			}
			if !sameWord(w, want[i]) {
				t.Errorf("the range within wrote over %v: %v", want[i], w)
			}
			scribble(w)
			i++
		}
		if i != len(want) {
			t.Error(i, "words")
		}
	}
}

func TestR2BesideErrors(t *testing.T) {
	for _, text := range []string{"x < 007", "1 2 3 #", strings.Repeat("1", 50) + "a", "x " + strings.Repeat("n", 25), strings.Repeat("x ", 3000)} {
		if words, m := lex.Tokens(text); len(words) > 0 || m.Code == api.OK {
			t.Errorf("%q: %v %v", text, words, m)
		}
	}
	if _, m := lex.Tokens("  x  "); m != (api.Mishap{}) {
		t.Error("a place beside no error", m)
	}
	// What has no number has 0, what has one has it above 0 or is 0 itself.
	texts(func(text string) {
		for w := range lex.Words(text) {
			n := len(w.N.Mag)
			if w.N.Neg || w.Kind != lex.Num && n > 0 || w.Text == "0" && n > 0 || n > 0 && w.N.Mag[n-1] == 0 {
				t.Errorf("%q: %v", text, w)
			}
		}
	})
}

func TestR4WhateverElseRuns(t *testing.T) {
	want, _ := cut(numbers)
	words := lex.Words(numbers)
	var group sync.WaitGroup
	for range 8 {
		group.Add(1)
		go func() {
			defer group.Done()
			for range 50 {
				var got []lex.Token
				for w := range words {
					got = append(got, w)
				}
				all, m := lex.Tokens(numbers)
				if !sameWords(got, want) || !sameWords(all, want) || m.Code != api.OK {
					t.Error("words hang on what runs beside them", got, all, m)
				}
			}
		}()
	}
	group.Wait()
}

func TestR1LongTexts(t *testing.T) {
	long := strings.Repeat("1", 1<<24)
	if words, m := lex.Tokens(long); len(words) > 0 || m != (api.Mishap{Code: api.ErrText}) {
		t.Error(len(words), m)
	}
	if got := gone(long); len(got) > 0 {
		t.Error(len(got))
	}
	if lex.IsName("a"+long) || lex.IsName(long) {
		t.Error("a name of many bytes")
	}
}
