package syntax_test

import (
	"slices"
	"strings"
	"testing"

	"riddle/api"
	"riddle/syntax"
)

// Trees of all makes (R1): nested deeply, wide, with one list at very many places, with a list below itself.

// answers are those of all calls but Copy, whose answer is as great as the tree.
type answers struct {
	check, print api.Errno
	free         string
	size         int
}

func wantAnswers(t *testing.T, what string, u api.Tree, want answers) {
	t.Helper()
	text, e := syntax.Print(u)
	got := answers{syntax.Check(u), e, strings.Join(syntax.Free(u), " "), syntax.Size(u)}
	if got != want || e != api.OK && text != "" {
		t.Errorf("%s: %+v, want %+v", what, got, want)
	}
	if !syntax.Same(u, u) || syntax.Same(u, iff(u, u)) {
		t.Errorf("%s: not the same as itself", what)
	}
}

// The bound on what a program is given says 2^16 parts nested in one another.
func TestR1Deep(t *testing.T) {
	const levels = 1 << 16
	for _, c := range []struct {
		what string
		u    api.Tree
		want answers
	}{
		{"not", over(levels, below1("x"), not), answers{api.ErrDepth, api.ErrDepth, "x", tooMany}},
		{"some", over(levels, lt(v("x"), v("y")), func(f api.Tree) api.Tree { return some("x", f) }), answers{api.ErrDepth, api.ErrDepth, "y", tooMany}},
		{"or", over(levels/2, below1("x"), func(f api.Tree) api.Tree { return or(f, below1("y")) }), answers{api.ErrDepth, api.ErrDepth, "x y", tooMany}},
		{"neg", lt(num(1), over(levels, v("x"), neg)), answers{api.ErrDepth, api.ErrDepth, "x", tooMany}},
		{"wrong at the bottom", over(levels, below1(""), not), answers{api.ErrArg, api.ErrArg, "", tooMany}},
		{"0 at the bottom", over(levels, divides(0, v("x")), not), answers{api.ErrZero, api.ErrZero, "x", tooMany}},
		{"no kind", over(levels, v("x"), func(u api.Tree) api.Tree { return of(0, u) }), answers{api.ErrArg, api.ErrArg, "x", tooMany}},
	} {
		wantAnswers(t, c.what, c.u, c.want)
		copied := syntax.Copy(c.u)
		if !syntax.Same(copied, c.u) || &copied.Kids[0] == &c.u.Kids[0] {
			t.Errorf("%s: the copy is another tree", c.what)
		}
	}
}

func TestR1Wide(t *testing.T) {
	row := and()
	for range 300000 {
		row.Kids = append(row.Kids, below1("x"))
	}
	wantAnswers(t, "wide", row, answers{api.OK, api.ErrText, "x", tooMany})
	if !syntax.Same(syntax.Copy(row), row) {
		t.Error("wide: the copy is another tree")
	}
	other := syntax.Copy(row)
	other.Kids[299999].Kids[1].N = n(2)
	if syntax.Same(row, other) {
		t.Error("wide: the last kid is not looked at")
	}
	names := some("x", below1("x"))
	names.Names = slices.Repeat([]string{"x", "y"}, 300000)
	wantAnswers(t, "names", names, answers{api.OK, api.ErrText, "", 4})
	long := lt(v("x"), api.Tree{Kind: api.TreeNum, N: api.Int{Mag: slices.Repeat([]uint32{7}, 1<<22)}})
	wantAnswers(t, "a long number", long, answers{api.OK, api.ErrText, "x", 3})
	wantAnswers(t, "a long name", below1(strings.Repeat("n", 25)), answers{api.ErrArg, api.ErrArg, strings.Repeat("n", 25), 3})
}

// Each level has the one below it twice: as a tree that is more than could ever be gone through, in memory it is little.
func TestR1OneListAtManyPlaces(t *testing.T) {
	twice := func(f api.Tree) api.Tree { return and(f, f) }
	bound := func(f api.Tree) api.Tree { return or(some("x", f), all("y", f), f) }
	sums := func(u api.Tree) api.Tree { return add(u, u) }
	for _, c := range []struct {
		what string
		u    api.Tree
		want answers
	}{
		{"twice", over(57, below1("x"), twice), answers{api.OK, api.ErrText, "x", tooMany}},
		{"twice, too deep", over(300, below1("x"), twice), answers{api.ErrDepth, api.ErrDepth, "x", tooMany}},
		{"twice, wrong", over(57, below1("1"), twice), answers{api.ErrArg, api.ErrArg, "1", tooMany}},
		{"twice, 0", over(57, divides(0, v("q")), twice), answers{api.ErrZero, api.ErrZero, "q", tooMany}},
		{"bound", over(28, lt(v("x"), add(v("y"), v("z"))), bound), answers{api.OK, api.ErrText, "x y z", tooMany}},
		{"all bound", some("x y", over(200, lt(v("x"), add(v("y"), v("z"))), bound)), answers{api.ErrDepth, api.ErrDepth, "z", tooMany}},
		{"sums", lt(over(58, v("x"), sums), over(58, v("y"), sums)), answers{api.OK, api.ErrText, "x y", tooMany}},
	} {
		wantAnswers(t, c.what, c.u, c.want)
	}
	a, b, c := over(300, below1("x"), twice), over(300, below1("x"), twice), over(300, below1("y"), twice)
	wantSame2 := func(a, b api.Tree, want bool) {
		t.Helper()
		if syntax.Same(a, b) != want {
			t.Error("Same of one list at many places: not", want)
		}
	}
	wantSame2(a, b, true)
	wantSame2(a, c, false)
	wantSame2(a, over(301, below1("x"), twice), false)
	small := over(10, below1("x"), twice)
	copied := syntax.Copy(small)
	cells(copied, apart(t).own("a copy"))
	if !syntax.Same(small, copied) || count(copied) != count(small) {
		t.Error("the copy of one list at many places")
	}
}

// A list that stands below itself says a tree without an end: too deep, and of more than 3000 trees.
func TestR1Endless(t *testing.T) {
	ring := func(length int, put func(kids []api.Tree) api.Tree, more ...api.Tree) api.Tree {
		first := make([]api.Tree, 1+len(more))
		copy(first[1:], more)
		u := put(first)
		for range length - 1 {
			u = put([]api.Tree{u})
		}
		first[0] = u
		return u
	}
	nots := func(kids []api.Tree) api.Tree { return of(api.TreeNot, kids...) }
	rows := func(kids []api.Tree) api.Tree { return of(api.TreeAnd, kids...) }
	binds := func(kids []api.Tree) api.Tree {
		return api.Tree{Kind: api.TreeSome, Names: []string{"x", "y"}, Kids: kids}
	}
	for _, c := range []struct {
		what string
		u    api.Tree
		want answers
	}{
		{"not", ring(1, nots), answers{api.ErrDepth, api.ErrDepth, "", tooMany}},
		{"a ring of not", ring(7, nots), answers{api.ErrDepth, api.ErrDepth, "", tooMany}},
		{"a row", ring(1, rows, below1("x"), below1("y")), answers{api.ErrDepth, api.ErrDepth, "x y", tooMany}},
		{"a row with 0", ring(1, rows, divides(0, v("x"))), answers{api.ErrZero, api.ErrZero, "x", tooMany}},
		{"a wrong row", ring(1, rows, divides(0, v("x")), v("q")), answers{api.ErrArg, api.ErrArg, "q x", tooMany}},
		{"bound", ring(3, binds), answers{api.ErrDepth, api.ErrDepth, "", tooMany}},
		{"bound, and more", ring(1, binds, below1("x"), below1("z")), answers{api.ErrArg, api.ErrArg, "z", tooMany}},
	} {
		wantAnswers(t, c.what, c.u, c.want)
		if copied := syntax.Copy(c.u); !syntax.Same(copied, c.u) || &copied.Kids[0] == &c.u.Kids[0] {
			t.Errorf("%s: the copy is another tree", c.what)
		}
	}
	if a, b := ring(2, nots), ring(3, nots); !syntax.Same(a, b) || syntax.Same(a, over(9, yes(), not)) {
		t.Error("Same of what has no end")
	}
}
