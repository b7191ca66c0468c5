package syntax

import (
	"strings"

	"riddle/api"
	"riddle/lex"
)

// A reader goes over a text's words from the left. Its methods bear the names of the grammar's rules.
type reader struct {
	words []lex.Token
	at    int
	end   int
}

// read is the formula of all words of a text that has so many bytes. From wherever it can't go on it is given up by a
// panic, so that the rules need not look at what came of one another.
func read(words []lex.Token, end int) (t api.Tree, wrong api.Mishap) {
	defer func() {
		switch given := recover().(type) {
		case nil:
		case api.Mishap:
			t, wrong = api.Tree{}, given
		default:
			panic(given)
		}
	}()
	r := &reader{words: words, end: end}
	t = r.formula()
	if r.at < len(words) {
		r.giveUp()
	}
	return t, api.Mishap{}
}

// giveUp ends reading where it is.
func (r *reader) giveUp() {
	if r.at == len(r.words) {
		panic(api.Mishap{Code: api.ErrEnd, At: r.end})
	}
	panic(api.Mishap{Code: api.ErrSyntax, At: r.words[r.at].At})
}

// next is a word ahead, by how many are between; of no kind, if there is none.
func (r *reader) next(between int) lex.Token {
	if r.at+between >= len(r.words) {
		return lex.Token{}
	}
	return r.words[r.at+between]
}

// passes tells whether a text is the next word, and goes on behind it then.
func (r *reader) passes(text string) bool {
	if r.next(0).Text != text {
		return false
	}
	r.at++
	return true
}

// kindAmong is which kind from first to last the next word says, and goes on behind it; 0, if it says none of them.
func (r *reader) kindAmong(first, last int) int {
	for kind := first; kind <= last; kind++ {
		if r.passes(wordOf[kind]) {
			return kind
		}
	}
	return 0
}

// must goes on behind a word that has to stand there.
func (r *reader) must(text string) {
	if !r.passes(text) {
		r.giveUp()
	}
}

// take is the next word, which has to be of a kind.
func (r *reader) take(kind int) lex.Token {
	word := r.next(0)
	if word.Kind != kind {
		r.giveUp()
	}
	r.at++
	return word
}

func (r *reader) formula() api.Tree {
	t := r.implied()
	for r.passes(wordOf[api.TreeIff]) {
		t = api.Tree{Kind: api.TreeIff, Kids: []api.Tree{t, r.implied()}}
	}
	return t
}

func (r *reader) implied() api.Tree {
	t := r.ored()
	if r.passes(wordOf[api.TreeImplies]) {
		return api.Tree{Kind: api.TreeImplies, Kids: []api.Tree{t, r.implied()}}
	}
	return t
}

func (r *reader) ored() api.Tree { return r.row(api.TreeOr, r.anded) }

func (r *reader) anded() api.Tree { return r.row(api.TreeAnd, r.notted) }

// row is one tree of all kids with a kind's word between each two; a kid alone is itself.
func (r *reader) row(kind int, kid func() api.Tree) api.Tree {
	kids := []api.Tree{kid()}
	for r.passes(wordOf[kind]) {
		kids = append(kids, kid())
	}
	if len(kids) == 1 {
		return kids[0]
	}
	return api.Tree{Kind: kind, Kids: kids}
}

func (r *reader) notted() api.Tree {
	if r.passes(wordOf[api.TreeNot]) {
		return api.Tree{Kind: api.TreeNot, Kids: []api.Tree{r.notted()}}
	}
	if kind := r.kindAmong(api.TreeSome, api.TreeAll); kind != 0 {
		names := r.names()
		r.must(dot)
		return api.Tree{Kind: kind, Names: names, Kids: []api.Tree{r.formula()}}
	}
	return r.primary()
}

func (r *reader) names() []string {
	names := []string{r.name()}
	for r.next(0).Kind == lex.Name {
		names = append(names, r.name())
	}
	return names
}

// name is a text of its own, so that a tree doesn't hold on to all of the text that it was read from.
func (r *reader) name() string {
	return strings.Clone(r.take(lex.Name).Text)
}

func (r *reader) primary() api.Tree {
	if kind := r.kindAmong(api.TreeTrue, api.TreeFalse); kind != 0 {
		return api.Tree{Kind: kind}
	}
	if r.passes(opening) {
		t := r.formula()
		r.must(closing)
		return t
	}
	if r.next(0).Kind == lex.Num && r.next(1).Text == wordOf[api.TreeDivides] {
		return r.divides()
	}
	// What begins with a parenthesis was a formula above: so a sum is read as a total here.
	left := r.total()
	kind := r.kindAmong(api.TreeLt, api.TreeGt)
	if kind == 0 {
		r.giveUp()
	}
	return api.Tree{Kind: kind, Kids: []api.Tree{left, r.total()}}
}

func (r *reader) divides() api.Tree {
	divisor := r.take(lex.Num)
	if len(divisor.N.Mag) == 0 {
		panic(api.Mishap{Code: api.ErrZero, At: divisor.At})
	}
	r.must(wordOf[api.TreeDivides])
	return api.Tree{Kind: api.TreeDivides, N: divisor.N, Kids: []api.Tree{r.total()}}
}

func (r *reader) total() api.Tree {
	t := r.operand()
	for kind := r.kindAmong(api.TreeAdd, api.TreeSub); kind != 0; kind = r.kindAmong(api.TreeAdd, api.TreeSub) {
		t = api.Tree{Kind: kind, Kids: []api.Tree{t, r.operand()}}
	}
	return t
}

func (r *reader) operand() api.Tree {
	switch {
	case r.passes(wordOf[api.TreeNeg]):
		return api.Tree{Kind: api.TreeNeg, Kids: []api.Tree{r.operand()}}
	case r.passes(opening):
		t := r.total()
		r.must(closing)
		return t
	case r.next(0).Kind == lex.Num:
		return r.multiple()
	}
	return api.Tree{Kind: api.TreeVar, Name: r.name()}
}

// multiple is a number, or so many times what stands behind it.
func (r *reader) multiple() api.Tree {
	n := r.take(lex.Num).N
	if r.passes(wordOf[api.TreeMul]) {
		return api.Tree{Kind: api.TreeMul, N: n, Kids: []api.Tree{r.operand()}}
	}
	return api.Tree{Kind: api.TreeNum, N: n}
}
