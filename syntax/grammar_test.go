package syntax_test

import (
	"slices"
	"strings"
	"testing"

	"riddle/api"
	"riddle/syntax"
)

// The grammar a second time, as plain rules, and what it says of a row of words: found by keeping, behind each word, all the
// places in the rules at which reading can be. It knows nothing of trees.

// theRules: each line a head and its bodies. N is a number above 0, Z is 0.
const theRules = `
formula = implied | formula iff implied
implied = ored | ored implies implied
ored = anded | ored or anded
anded = notted | anded and notted
notted = not notted | some names . formula | all names . formula | primary
names = NAME | names NAME
primary = true | false | ( formula ) | DIVISOR divides total | sum compare total
compare = < | <= | = | != | >= | >
sum = piece | sum + operand | sum - operand
total = operand | total + operand | total - operand
piece = - operand | INT | INT * operand | NAME
operand = - operand | INT | INT * operand | NAME | ( total )
INT = N | Z
`

// Strictly no 0 divides; loosely it does, so that what is wrong about it can be told from other things.
const (
	strictly = theRules + "DIVISOR = N"
	loosely  = theRules + "DIVISOR = N | Z"
)

type rule struct {
	head string
	body []string
}

// A spot is a place in a rule that was begun behind so many words.
type spot struct{ rule, dot, from int }

type grammar struct {
	rules []rule
	heads map[string][]int
}

func grammarOf(text string) grammar {
	g := grammar{heads: map[string][]int{}}
	for _, line := range strings.Split(strings.TrimSpace(text), "\n") {
		head, bodies, _ := strings.Cut(line, " = ")
		for _, body := range strings.Split(bodies, " | ") {
			g.heads[head] = append(g.heads[head], len(g.rules))
			g.rules = append(g.rules, rule{head, strings.Fields(body)})
		}
	}
	return g
}

// A chart has the spots behind each of some words.
type chart struct {
	g    grammar
	sets [][]spot
}

func (g grammar) begin() chart {
	var first []spot
	for _, i := range g.heads["formula"] {
		first = append(first, spot{i, 0, 0})
	}
	c := chart{g: g}
	return c.close(first)
}

// close has all spots that follow from these, too, as the last set.
func (c chart) close(set []spot) chart {
	here := len(c.sets)
	known := map[spot]bool{}
	for _, s := range set {
		known[s] = true
	}
	put := func(s spot) {
		if !known[s] {
			known[s] = true
			set = append(set, s)
		}
	}
	for i := 0; i < len(set); i++ {
		s := set[i]
		r := c.g.rules[s.rule]
		if s.dot < len(r.body) {
			for _, j := range c.g.heads[r.body[s.dot]] {
				put(spot{j, 0, here})
			}
			continue
		}
		// No rule has an empty body: what waits for this one stands in an earlier set.
		for _, w := range c.sets[s.from] {
			body := c.g.rules[w.rule].body
			if w.dot < len(body) && body[w.dot] == r.head {
				put(spot{w.rule, w.dot + 1, w.from})
			}
		}
	}
	return chart{c.g, append(slices.Clip(c.sets), set)}
}

// behind is the chart with one word more; ok is false, if no formula goes on with it.
func (c chart) behind(word string) (next chart, ok bool) {
	switch {
	case word == "0":
		word = "Z"
	case word[0] >= '1' && word[0] <= '9':
		word = "N"
	case word == "x" || word == "y":
		word = "NAME"
	}
	var set []spot
	for _, s := range c.sets[len(c.sets)-1] {
		body := c.g.rules[s.rule].body
		if s.dot < len(body) && body[s.dot] == word {
			set = append(set, spot{s.rule, s.dot + 1, s.from})
		}
	}
	if len(set) == 0 {
		return chart{}, false
	}
	return c.close(set), true
}

// whole tells whether the words are a formula.
func (c chart) whole() bool {
	for _, s := range c.sets[len(c.sets)-1] {
		r := c.g.rules[s.rule]
		if s.from == 0 && s.dot == len(r.body) && r.head == "formula" {
			return true
		}
	}
	return false
}

// wantWords fails unless Parse says of words that can be gone on with whether they are a formula already.
func wantWords(t *testing.T, words []string, c chart) {
	t.Helper()
	text := strings.Join(words, " ")
	if !c.whole() {
		wantMishap(t, text, api.ErrEnd, len(text))
		return
	}
	u, m := syntax.Parse(text)
	if m != (api.Mishap{}) {
		t.Errorf("Parse(%q): %v", text, m)
		return
	}
	wantThereAndBack(t, u)
}

// wantStuck fails unless Parse gives up a text at its last word, or at the 0 that `divides` stands behind.
func wantStuck(t *testing.T, words []string, loose chart) {
	t.Helper()
	last := len(words) - 1
	text := strings.Join(words, " ")
	at := len(text) - len(words[last])
	if _, ok := loose.behind(words[last]); ok {
		wantMishap(t, text, api.ErrZero, at-2)
		wantMishap(t, text+" )", api.ErrZero, at-2)
		return
	}
	wantMishap(t, text, api.ErrSyntax, at)
	wantMishap(t, text+" <", api.ErrSyntax, at)
	wantMishap(t, "\n"+text+" 1", api.ErrSyntax, at+1)
}

// goOn tries each word behind the words, and goes on behind those that can stand there.
func goOn(t *testing.T, more int, alphabet, words []string, strict, loose chart) int {
	count := 1
	wantWords(t, words, strict)
	for _, word := range alphabet {
		row := append(slices.Clip(words), word)
		next, ok := strict.behind(word)
		if !ok {
			wantStuck(t, row, loose)
			count++
		} else if more > 0 {
			along, _ := loose.behind(word)
			count += goOn(t, more-1, alphabet, row, next, along)
		}
	}
	return count
}

func TestP42AllShortTexts(t *testing.T) {
	strict, loose := grammarOf(strictly).begin(), grammarOf(loosely).begin()
	for _, c := range []struct {
		most     int
		alphabet string
	}{
		{3, "true false not some all x y 1 0 27 divides and or implies iff ( ) + - * < <= = != >= > ."},
		{5, "true not some x 1 0 divides and iff ( ) + - * < ."},
		{7, "true not some x . and implies iff ( )"},
		{7, "x 0 7 divides ( ) - * ="},
	} {
		if count := goOn(t, c.most, strings.Fields(c.alphabet), nil, strict, loose); count < 10000 {
			t.Error("only", count, "texts of", c.alphabet)
		}
	}
}

// Drawn words, most of which can stand where they do, so that the texts get long.
func TestP42LongTexts(t *testing.T) {
	alphabet := strings.Fields("true false not some all x y 1 0 27 divides and or implies iff ( ) + - * < <= = != >= > .")
	d := &dice{state: 9}
	long := 0
	for range 400 {
		strict, loose := grammarOf(strictly).begin(), grammarOf(loosely).begin()
		var words []string
		for len(words) < 60 {
			word := alphabet[d.below(len(alphabet))]
			next, ok := strict.behind(word)
			if !ok && d.below(40) > 0 {
				continue
			}
			words = append(words, word)
			if !ok {
				wantStuck(t, words, loose)
				break
			}
			strict = next
			loose, _ = loose.behind(word)
			if len(words)%7 == 0 {
				wantWords(t, words, strict)
			}
		}
		if len(words) > 30 {
			long++
		}
	}
	if long < 20 {
		t.Error("only", long, "long texts")
	}
}
