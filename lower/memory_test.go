package lower_test

import (
	"slices"
	"strconv"
	"strings"
	"sync"
	"testing"
	"time"
	"unsafe"

	"riddle/api"
	"riddle/arena"
	"riddle/lower"
	"riddle/term"
)

// soon fails unless something is done in some seconds: what goes every way down would go on for ever.
func soon(t *testing.T, what string, do func()) {
	t.Helper()
	done := make(chan int)
	go func() {
		defer close(done)
		do()
	}()
	select {
	case <-done:
	case <-time.After(30 * time.Second):
		t.Fatalf("%s doesn't end", what)
	}
}

// soonFrom is what From answers, soon.
func soonFrom(t *testing.T, what string, a *arena.Arena, u api.Tree) (id int, e api.Errno) {
	t.Helper()
	soon(t, "From of "+what, func() { id, e = lower.From(a, u) })
	return id, e
}

// What came of a tree on a side is kept: an iff goes to both sides of its kids on each of its own, so that without this the
// ways down would double at each level.
func TestP102IffManyLevelsDeep(t *testing.T) {
	const levels = mostDeep - 2
	leaf := func(i int) api.Tree { return below1("x" + strconv.Itoa(100+i)) }
	left, right, nots, bound := leaf(0), leaf(0), leaf(0), leaf(0)
	for i := 1; i <= levels; i++ {
		left, right = iff(left, leaf(i)), iff(leaf(i), right)
	}
	for i := 1; i <= levels/2; i++ {
		nots = not(iff(leaf(i), nots))
		bound = api.Tree{Kind: api.TreeSome + i%2, Names: []string{"x" + strconv.Itoa(99+i), "y"}, Kids: []api.Tree{iff(bound, leaf(i))}}
	}
	for _, l := range []struct {
		what string
		u    api.Tree
		made int
	}{
		// An iff has an Or of two Ands, the topmost one on one side, the others on both, beside two atoms for each leaf.
		{"iff on the left", left, 3 + 6*(levels-1) + 2*(levels+1)}, {"iff on the right", right, 3 + 6*(levels-1) + 2*(levels+1)}, {"iff below not", nots, 3 + 6*(levels/2-1) + 2*(levels/2+1)},
		{"iff below quantifiers", bound, 3 + 2 + (6+4)*(levels/2-1) + 2*(levels/2+1)},
	} {
		a := arena.New(nil)
		if id, e := soonFrom(t, l.what, a, l.u); e != api.OK || id != a.Len()-1 || a.Len() != 2+l.made {
			t.Errorf("%s: %d, %v, %d made, want %d", l.what, id, e, a.Len()-2, l.made)
		}
	}
}

// Each level has the one below it twice: as a tree that is more than could ever be gone through, in memory it is little.
func TestR1OneListAtManyPlaces(t *testing.T) {
	base := and(below1("x"), lt(v("y"), v("x")))
	twice := func(f api.Tree) api.Tree { return and(f, f) }
	for _, l := range []struct {
		what, made string
		u          api.Tree
	}{
		{"and", "0<-v0+1; 0<v0-v1; and 2 3", over(mostDeep-3, base, twice)},
		{"or", "0<-v0+1; 0<v0-v1; and 2 3", over(mostDeep-3, base, func(f api.Tree) api.Tree { return or(f, f, f) })},
		{"not and", "0<v0; 0<-v0+v1+1; or 2 3", not(over(mostDeep-4, base, twice))},
		{"iff", "0<-v0+v1; 0<v0-v1+1 = 1", over(mostDeep-2, lt(v("x"), v("y")), func(f api.Tree) api.Tree { return iff(f, f) })},
		{"below some", "0<-v0+1; 0<v0-v1; and 2 3; some v2 4", some("q", over(mostDeep-4, base, twice))},
	} {
		a := arena.New(nil)
		id, e := soonFrom(t, l.what, a, l.u)
		if made, want := (side{l.what, l.made}).parted(); e != api.OK || id != want || tellMade(a, 2) != strings.Join(made, "; ") {
			t.Errorf("%s: %d, %v: %s, want %s", l.what, id, e, short(tellMade(a, 2)), l.made)
		}
		soon(t, "Names of "+l.what, func() {
			if names := lower.Names(l.u); strings.TrimSuffix(strings.Join(names, " "), " q") != "x y" {
				t.Errorf("Names of %s: %q", l.what, names)
			}
		})
	}
}

// Terms likewise: sums of sums, each twice, are a variable very many times.
func TestR1OneTermAtManyPlaces(t *testing.T) {
	twice := func(u api.Tree) api.Tree { return add(u, u) }
	sums := over(57, v("x"), twice)
	power := n(0, 1<<25) // 2^57
	soon(t, "Term of sums", func() {
		wantTerm(t, "sums", sums, []string{"y", "x"}, api.Term{Parts: []api.Part{{Var: 1, C: power}}})
		wantTerm(t, "differences", over(57, v("x"), func(u api.Tree) api.Tree { return sub(u, u) }), []string{"x"}, api.Term{})
		wantNoTerm(t, "sums", sums, []string{"y"}, api.ErrFree)
		wantNoTerm(t, "sums too deep", over(80, v("x"), twice), []string{"x"}, api.ErrDepth)
	})
	a := arena.New(nil)
	if id, e := soonFrom(t, "sums", a, lt(sums, over(57, v("y"), twice))); e != api.OK || id != 2 || tellMade(a, 2) != "0<-v0+v1" {
		t.Errorf("sums: %d, %v: %s", id, e, tellMade(a, 2))
	}
}

// One list of kids below several quantifiers has other variables at each place, on both sides.
func TestP102OneListOtherVariables(t *testing.T) {
	f := not(lt(v("x"), v("y")))
	q := not(some("y", f))
	for _, l := range []struct {
		u           api.Tree
		names, made string
	}{
		{and(some("x", f), all("x", f), f), "x y x x", "0<-v1+v2+1; some v2 2; 0<-v1+v3+1; all v3 4; 0<v0-v1+1; and 3 5 6"},
		{or(q, q), "x y y", "0<-v0+v1; all v1 2; 0<-v0+v2; all v2 4; or 3 5"},
		{some("x", and(q, q, all("x", q))), "x y y x y", "0<-v0+v1; all v1 2; 0<-v0+v2; all v2 4; 0<-v3+v4; all v4 6; all v3 7; and 3 5 8; some v0 9"},
		{iff(q, q), "x y y", "0<-v0+v1; all v1 2; 0<-v0+v2; all v2 4; and 3 5; 0<v0-v1+1; some v1 7; 0<v0-v2+1; some v2 9; and 8 10; or 6 11"},
	} {
		a := arena.New(nil)
		id, e := lower.From(a, l.u)
		if e != api.OK || id != a.Len()-1 || tellMade(a, 2) != l.made {
			t.Errorf("%s: %d, %v: %s, want %s", tellTree(l.u), id, e, tellMade(a, 2), l.made)
		}
		if names := lower.Names(l.u); !slices.Equal(names, strings.Fields(l.names)) {
			t.Errorf("Names of %s: %q", tellTree(l.u), names)
		}
	}
}

// Quantifiers at more places than could be gone to: each has a variable of its own, so that the nodes come to an end.
func TestR1QuantifiersAtManyPlaces(t *testing.T) {
	for what, put := range map[string]func(api.Tree) api.Tree{
		"and": func(f api.Tree) api.Tree { return and(some("x", f), f) }, "or": func(f api.Tree) api.Tree { return or(f, all("x y", f), f) },
		"iff": func(f api.Tree) api.Tree { return iff(f, some("x", f)) }, "wide": func(f api.Tree) api.Tree { return and(slices.Repeat([]api.Tree{some("x x", f)}, 50)...) },
	} {
		a := arena.New(nil)
		if id, e := soonFrom(t, what, a, over((mostDeep-2)/2, lt(v("x"), v("y")), put)); id != 0 || e != api.ErrNodes || a.Len() != 2002 {
			t.Errorf("%s: %d, %v, %d nodes", what, id, e, a.Len())
		}
	}
}

// A tree that has no end is refused.
func TestR1Endless(t *testing.T) {
	kids := make([]api.Tree, 2)
	kids[0], kids[1] = below1("x"), of(api.TreeAnd, kids...)
	u := of(api.TreeAnd, kids...)
	soon(t, "what has no end", func() {
		if id, e := lower.From(arena.New(nil), u); id != 0 || e != api.ErrDepth {
			t.Errorf("From: %d, %v", id, e)
		}
		if names := lower.Names(u); len(names) > 0 {
			t.Errorf("Names: %q", names)
		}
		wantNoTerm(t, "what has no end", u, nil, api.ErrArg)
	})
}

func TestR1Deep(t *testing.T) {
	const levels = 1 << 16
	a := arena.New(nil)
	for what, u := range map[string]api.Tree{"not": over(levels, below1("x"), not), "some": over(levels, below1("x"), func(f api.Tree) api.Tree { return some("x", f) }), "neg": lt(over(levels, v("x"), neg), num(1))} {
		if id, e := soonFrom(t, what, a, u); id != 0 || e != api.ErrDepth || a.Len() != 2 {
			t.Errorf("%s: %d, %v", what, id, e)
		}
		if names := lower.Names(u); len(names) > 0 {
			t.Errorf("Names of %s: %d", what, len(names))
		}
	}
	wantNoTerm(t, "neg", over(levels, v("x"), neg), []string{"x"}, api.ErrDepth)
	if got := from(t, a, over(mostDeep-2, below1("x"), not)); got != 2 {
		t.Errorf("as deep as may be: %d", got)
	}
}

func TestR1Wide(t *testing.T) {
	const many = 60000
	var same, other []api.Tree
	for i := range many {
		same = append(same, below1("x"))
		other = append(other, lt(v("x"+strconv.Itoa(i)), num(1)))
	}
	a := arena.New(nil)
	if id, e := soonFrom(t, "a wide and", a, and(same...)); id != 2 || e != api.OK || a.Len() != 3 {
		t.Errorf("a wide and: %d, %v", id, e)
	}
	if id, e := soonFrom(t, "a wide or", a, or(other...)); id != 0 || e != api.ErrNodes || a.Len() != 2002 {
		t.Errorf("a wide or: %d, %v", id, e)
	}
	names := some("x", below1("x"))
	names.Names = slices.Repeat([]string{"x", "y"}, many)
	a = arena.New(nil)
	if id, e := soonFrom(t, "many names", a, names); id != 0 || e != api.ErrNodes || a.Len() != 2002 || !strings.HasPrefix(tellMade(a, 2), "0<-v119998+1; some v119999 2; some v119998 3; ") {
		t.Errorf("many names: %d, %v", id, e)
	}
	soon(t, "Names", func() {
		if got := lower.Names(names); !slices.Equal(got, names.Names) {
			t.Errorf("Names of many: %d", len(got))
		}
		if got := lower.Names(or(other...)); len(got) != many || !slices.IsSorted(got) {
			t.Errorf("Names of many that are free: %d", len(got))
		}
	})
}

// A term of very many variables, and a long list of names.
func TestR1LongTerms(t *testing.T) {
	const many = 1 << 14
	var names []string
	var parts []api.Part
	row := []api.Tree{}
	for i := range many {
		names = append(names, "x"+strconv.Itoa(i))
		parts = append(parts, api.Part{Var: many + i, C: small(1)})
		row = append(row, v(names[i]))
	}
	for len(row) > 1 {
		for i := range len(row) / 2 {
			row[i] = add(row[2*i], row[2*i+1])
		}
		row = row[:len(row)/2]
	}
	soon(t, "Term", func() {
		wantTerm(t, "many", row[0], append(slices.Repeat([]string{"y", "z"}, many/2), append(names, names...)...), api.Term{Parts: parts})
	})
	a := arena.New(nil)
	if id, e := soonFrom(t, "many", a, iff(lt(row[0], num(1)), of(api.TreeEq, row[0], num(0)))); e != api.OK || len(a.Free(id)) != many {
		t.Errorf("many: %d, %v", id, e)
	}
}

// Beside an error all else is zero (R2), and a refused tree has changed nothing.
func TestR2BesideErrors(t *testing.T) {
	d := &dice{state: 108}
	refused := map[api.Errno]int{}
	for range drawn {
		a := arena.New(meterOf(t, 1+d.roll(40), 1+d.roll(2)))
		lower.From(a, d.formula(4, 1, false))
		was := tellArena(a)
		u := d.formula(2+d.roll(4), 2, false)
		if d.roll(3) == 0 {
			u = d.spoilt(u)
		}
		id, e := lower.From(a, u)
		if e != api.OK && id != 0 || e != api.OK && e < api.ErrNodes && tellArena(a) != was {
			t.Fatalf("From(%s): %d, %v", tellTree(u), id, e)
		}
		refused[e]++
		x, e := lower.Term(u, []string{"x"})
		if e == api.OK || x.Parts != nil || x.K.Neg || len(x.K.Mag) > 0 {
			t.Fatalf("Term(%s): %s, %v", tellTree(u), tellTerm(x), e)
		}
	}
	if min(refused[api.ErrArg], refused[api.ErrNodes], refused[api.ErrLimbs]) < drawn/50 {
		t.Errorf("refused %v", refused)
	}
}

const spare = 3

// roomy is a tree with marked spare room behind each of its lists.
func roomy(t api.Tree) api.Tree {
	t.Names = append(slices.Clone(t.Names), slices.Repeat([]string{"spare"}, spare)...)[:len(t.Names)]
	t.N.Mag = append(slices.Clone(t.N.Mag), slices.Repeat([]uint32{0xabcd}, spare)...)[:len(t.N.Mag)]
	kids := slices.Clone(t.Kids)
	for i := range kids {
		kids[i] = roomy(kids[i])
	}
	t.Kids = append(kids, slices.Repeat([]api.Tree{v("spare")}, spare)...)[:len(kids)]
	return t
}

// tellRoom tells a tree with the spare room of all lists.
func tellRoom(t api.Tree) string {
	text := strconv.Itoa(t.Kind) + t.Name + strings.Join(t.Names[:cap(t.Names)], ",") + strconv.FormatBool(t.N.Neg)
	for _, limb := range t.N.Mag[:cap(t.N.Mag)] {
		text += "'" + strconv.FormatUint(uint64(limb), 10)
	}
	for _, kid := range t.Kids[:cap(t.Kids)] {
		text += "(" + tellRoom(kid) + ")"
	}
	return text
}

// Trees and names that are handed in stay as they are, spare room too (R3).
func TestR3ArgumentsStay(t *testing.T) {
	d := &dice{state: 109}
	for range drawn / 5 {
		names := append(d.names(), "w", "x", "y", "z", "spare", "spare")
		names = names[:len(names)-2]
		whole := names[:cap(names)]
		namesWere := strings.Join(whole, ",")
		for _, u := range []api.Tree{d.formula(5, 2, false), d.spoilt(d.formula(4, 1, false)), d.term(4, 2), d.spoilt(d.term(4, 2))} {
			u = roomy(u)
			was := tellRoom(u)
			lower.Names(u)
			lower.From(arena.New(nil), u)
			lower.Term(u, names)
			if tellRoom(u) != was || strings.Join(whole, ",") != namesWere {
				t.Fatalf("%s or %q was changed", was, namesWere)
			}
		}
	}
}

func scribble(t api.Tree) {
	for i := range t.Kids[:cap(t.Kids)] {
		scribble(t.Kids[:cap(t.Kids)][i])
		t.Kids[:cap(t.Kids)][i] = v("spoilt")
	}
	for i := range t.Names[:cap(t.Names)] {
		t.Names[:cap(t.Names)][i] = "spoilt"
	}
	for i := range t.N.Mag[:cap(t.N.Mag)] {
		t.N.Mag[:cap(t.N.Mag)][i] = 0x5555
	}
}

// What is done to an argument or to an answer afterwards is seen nowhere else.
func TestR3NothingIsKept(t *testing.T) {
	text := "some x x y . 18446744073709551617 * x < y + 4294967297 and 4294967297 divides x and (all x . x = 7) or z < 7"
	wantNames, wantNodes, wantSum := "", "", ""
	for range 3 {
		u, names := read(t, text), []string{"x", "y"}
		a := arena.New(nil)
		from(t, a, u)
		told := lower.Names(u)
		sum, _ := lower.Term(termOf(t, "4294967297 * x + 4294967298"), names)
		if wantNodes == "" {
			wantNames, wantNodes, wantSum = strings.Join(told, " "), tellArena(a), tellTerm(sum)
		}
		scribble(u)
		names[0], names[1] = "y", "x"
		if strings.Join(told, " ") != wantNames || tellArena(a) != wantNodes || tellTerm(sum) != wantSum {
			t.Fatalf("%q\n%s\n%s", told, tellArena(a), tellTerm(sum))
		}
		clear(told)
		clear(sum.K.Mag)
		for _, p := range sum.Parts {
			clear(p.C.Mag)
		}
	}
}

// textPlaces are the places of a text's bytes.
func textPlaces(s string) []any {
	var places []any
	for i := range len(s) {
		places = append(places, (*byte)(unsafe.Add(unsafe.Pointer(unsafe.StringData(s)), i)))
	}
	return places
}

func limbPlaces(a api.Int) []any {
	var places []any
	limbs := a.Mag[:cap(a.Mag)]
	for i := range limbs {
		places = append(places, &limbs[i])
	}
	return places
}

func namePlaces(names []string) []any {
	var places []any
	names = names[:cap(names)]
	for i := range names {
		places = append(append(places, &names[i]), textPlaces(names[i])...)
	}
	return places
}

func treePlaces(t api.Tree) []any {
	places := slices.Concat(textPlaces(t.Name), namePlaces(t.Names), limbPlaces(t.N))
	kids := t.Kids[:cap(t.Kids)]
	for i := range kids {
		places = append(append(places, &kids[i]), treePlaces(kids[i])...)
	}
	return places
}

func termPlaces(t api.Term) []any {
	places := limbPlaces(t.K)
	parts := t.Parts[:cap(t.Parts)]
	for i := range parts {
		places = append(append(places, &parts[i]), limbPlaces(parts[i].C)...)
	}
	return places
}

func wantApart(t *testing.T, what string, lists ...[]any) {
	t.Helper()
	seen := map[any]int{}
	for i, list := range lists {
		for _, place := range list {
			if first, is := seen[place]; is {
				t.Errorf("%s: memory of list %d is shared with list %d", what, i, first)
				return
			}
			seen[place] = i
		}
	}
}

// own is a tree with memory of its own, down to each text.
func own(t api.Tree) api.Tree {
	t.Name = strings.Clone(t.Name)
	t.Names = slices.Clone(t.Names)
	for i := range t.Names {
		t.Names[i] = strings.Clone(t.Names[i])
	}
	t.N.Mag = slices.Clone(t.N.Mag)
	t.Kids = slices.Clone(t.Kids)
	for i := range t.Kids {
		t.Kids[i] = own(t.Kids[i])
	}
	return t
}

// Answers are new memory: names as well as numbers (R3).
func TestR3AnswersAreNew(t *testing.T) {
	d := &dice{state: 110}
	for range drawn / 10 {
		u := own(d.formula(5, 2, false))
		wantApart(t, "Names", treePlaces(u), namePlaces(lower.Names(u)), namePlaces(lower.Names(u)))
	}
	all := []string{"x", "y", "z", "w", "X_9", "a"}
	for range drawn / 5 {
		u := own(d.term(1+d.roll(5), 2))
		one, e := lower.Term(u, all)
		two, _ := lower.Term(u, all)
		if e != api.OK || !term.Valid(one) {
			t.Fatalf("Term(%s): %s, %v", tellTree(u), tellTerm(one), e)
		}
		wantApart(t, "Term", treePlaces(u), termPlaces(one), termPlaces(two))
	}
	shared := great(widest(3))
	got, _ := lower.Term(add(add(shared, mul(shared.N, v("x"))), mul(shared.N, v("y"))), all)
	wantApart(t, "Term", limbPlaces(shared.N), termPlaces(got))
}

// No answer hangs on what runs beside it, or ran ahead with another arena (R4); goroutines may look at one tree.
func TestR4WhateverElseRuns(t *testing.T) {
	const hands = 8
	d := &dice{state: 111}
	var trees []api.Tree
	for range 100 {
		trees = append(trees, d.formula(2+d.roll(5), 1, false))
	}
	row := func() string {
		var b strings.Builder
		a := arena.New(nil)
		for _, u := range trees {
			id, e := lower.From(a, u)
			b.WriteString(strconv.Itoa(id) + ", " + e.Error() + ": " + strings.Join(lower.Names(u), " ") + "\n")
			if len(u.Kids) > 0 {
				x, e := lower.Term(u.Kids[0], []string{"x", "y", "z", "w", "X_9", "a"})
				b.WriteString(tellTerm(x) + ", " + e.Error() + "\n")
			}
		}
		return b.String() + tellArena(a)
	}
	wanted := row()
	var group sync.WaitGroup
	var got [hands]string
	for hand := range hands {
		group.Go(func() { got[hand] = row() })
	}
	group.Wait()
	for hand := range hands {
		if got[hand] != wanted {
			t.Fatal("answers differ where others run")
		}
	}
}
