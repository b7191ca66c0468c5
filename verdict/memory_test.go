package verdict_test

import (
	"slices"
	"strconv"
	"strings"
	"sync"
	"testing"
	"time"
	"unsafe"

	"riddle/api"
)

// soon is what a call answers, unless that takes very long: what goes every way down would go on for ever.
func soon(t *testing.T, what string, q asking) answer {
	t.Helper()
	done := make(chan answer, 1)
	go func() { done <- q.ask() }()
	select {
	case a := <-done:
		return a
	case <-time.After(60 * time.Second):
		t.Fatalf("%s of %s doesn't end", q.name(), what)
	}
	return answer{}
}

// Each level has the one below it twice: as a tree that is more than could ever be gone through, in memory it is little.
func TestR1OneListAtManyPlaces(t *testing.T) {
	f := and(below1("x"), lt(v("y"), v("x")))
	twice := func(f api.Tree) api.Tree { return or(f, f) }
	folded := over(mostDeep-6, f, twice)
	for _, l := range []struct {
		what string
		q    asking
		want string
	}{
		{"or", of(eliminate, folded), "x < 1 and y < x"}, {"or", of(cost, folded), "3"}, {"or", of(eval, folded, smalls(0, -1)...), "true"}, {"or", of(eval, folded, smalls(0, 1)...), "false"},
		{"some of or", of(find, some(folded, "x"), smalls(-7)...), "-6"}, {"some of or", of(decide, some(folded, "x", "y")), "true"}, {"some of or", of(solutions, some(folded, "x")), "by 1: 0; from 0:"},
		{"iff", of(decide, all(over(mostDeep-5, below1("x"), func(f api.Tree) api.Tree { return iff(f, f) }), "x")), "true"}, {"a sum", of(decide, some(lt(over(mostDeep-5, v("x"), func(u api.Tree) api.Tree { return add(u, u) }), num(n(1))), "x")), "true"},
		{"quantifiers", of(decide, over(25, lt(num(n(1)), num(n(2))), func(f api.Tree) api.Tree { return and(some(f, "x"), f) })), "error 70"},
	} {
		if got := soon(t, l.what, l.q).String(); got != l.want {
			t.Errorf("%s of %s: %s, want %s", l.q.name(), l.what, short(got), l.want)
		}
	}
}

// A tree that has no end, and such as are very deep, are refused.
func TestR1Endless(t *testing.T) {
	const levels = 1 << 16
	kids := make([]api.Tree, 2)
	kids[0], kids[1] = below1("x"), node(api.TreeAnd, kids...)
	row := make([]api.Tree, 1)
	row[0] = some(below1("x"), "x")
	row[0].Kids = row
	for what, u := range map[string]api.Tree{"and": node(api.TreeAnd, kids...), "some": row[0], "deep not": over(levels, below1("x"), not), "deep some": over(levels, below1("x"), func(f api.Tree) api.Tree { return some(f, "x") }), "deep neg": lt(over(levels, v("x"), neg), num(n(1)))} {
		for call := range calls {
			if got := soon(t, what, of(call, u)); got.String() != (answer{call: call, e: api.ErrDepth}).String() {
				t.Errorf("%s of %s: %s", of(call, u).name(), what, short(got.String()))
			}
		}
	}
}

// Very many kids, names, values; numbers with very many limbs.
func TestR1Wide(t *testing.T) {
	const lots = 60000
	var same, other []api.Tree
	for i := range lots {
		same = append(same, below1("x"))
		other = append(other, below1("x"+strconv.Itoa(i)))
	}
	zeros := smalls(make([]int, lots)...)
	long := num(widest(50000, 0))
	for _, l := range []struct {
		what string
		q    asking
		want string
	}{
		{"one kid many times", of(eliminate, and(same...)), "x < 1"}, {"many kids", of(cost, and(other...)), "error 70"}, {"many kids", of(eval, or(other...), zeros...), "error 70"}, {"many kids", of(eval, or(other...), zeros[1:]...), "error 170"}, {"many kids", of(solutions, or(other...)), "error 171"}, {"many kids", of(decide, or(other...)), "error 210"},
		{"many names", of(find, some(below1("x"), many(lots, "x")...)), "error 70"}, {"many names", of(find, some(below1("y"), many(lots, "x")...)), "error 170"}, {"many names", of(find, some(below1("y"), many(1900, "x")...), zeros...), "error 170"}, {"many names", of(decide, all(below1("x"), many(lots, "x")...)), "error 70"},
		{"a long number", of(decide, some(lt(v("x"), long), "x")), "error 71"}, {"a long number", of(decide, lt(num(n(1)), long)), "true"}, {"a long number", of(find, some(and(lt(num(n(1)), long), below1("x")), "x")), "0"}, {"a long value", of(eval, below1("x"), widest(50000, 0)), "false"}, {"a long value", of(eval, divides(n(15), v("x")), widest(50000, 0)), "true"}, {"a long value", of(find, some(lt(v("x"), v("y")), "x"), widest(50000, 0)), "error 71"},
	} {
		if got := soon(t, l.what, l.q).String(); got != l.want {
			t.Errorf("%s of %s: %s, want %s", l.q.name(), l.what, short(got), l.want)
		}
	}
}

const spare = 3

func roomyNumber(a api.Int) api.Int {
	a.Mag = append(slices.Clone(a.Mag), slices.Repeat([]uint32{0xabcd}, spare)...)[:len(a.Mag)]
	return a
}

// roomy is the same asking in memory of its own, with marked spare room behind each list.
func roomy(q asking) asking {
	q.tree = roomyTree(q.tree)
	var l []api.Int
	for _, k := range q.vals {
		l = append(l, roomyNumber(k))
	}
	q.vals = append(l, slices.Repeat([]api.Int{n(0xabcd)}, spare)...)[:len(l)]
	return q
}

func roomyTree(t api.Tree) api.Tree {
	t.Names = append(slices.Clone(t.Names), slices.Repeat([]string{"spare"}, spare)...)[:len(t.Names)]
	t.N = roomyNumber(t.N)
	kids := slices.Clone(t.Kids)
	for i := range kids {
		kids[i] = roomyTree(kids[i])
	}
	t.Kids = append(kids, slices.Repeat([]api.Tree{v("spare")}, spare)...)[:len(kids)]
	return t
}

// tellRoom tells all of an asking, with the spare room of all lists.
func tellRoom(q asking) string {
	text := tellTreeRoom(q.tree)
	for _, k := range q.vals[:cap(q.vals)] {
		text += ";" + tellRoomOf(k)
	}
	return text
}

func tellRoomOf(a api.Int) string {
	text := strconv.FormatBool(a.Neg)
	for _, limb := range a.Mag[:cap(a.Mag)] {
		text += "'" + strconv.FormatUint(uint64(limb), 10)
	}
	return text
}

func tellTreeRoom(t api.Tree) string {
	text := strconv.Itoa(t.Kind) + t.Name + strings.Join(t.Names[:cap(t.Names)], ",") + tellRoomOf(t.N)
	for _, kid := range t.Kids[:cap(t.Kids)] {
		text += "(" + tellTreeRoom(kid) + ")"
	}
	return text
}

// The scribblers overwrite all that is in memory, spare room too.

func scribbleNumber(a api.Int) {
	for i := range a.Mag[:cap(a.Mag)] {
		a.Mag[:cap(a.Mag)][i] = 0x5555
	}
}

func scribbleNumbers(l []api.Int) {
	l = l[:cap(l)]
	for i := range l {
		scribbleNumber(l[i])
		l[i] = n(77)
	}
}

func scribbleTree(t api.Tree) {
	for i := range t.Kids[:cap(t.Kids)] {
		scribbleTree(t.Kids[:cap(t.Kids)][i])
		t.Kids[:cap(t.Kids)][i] = v("spoilt")
	}
	for i := range t.Names[:cap(t.Names)] {
		t.Names[:cap(t.Names)][i] = "spoilt"
	}
	scribbleNumber(t.N)
}

func scribbleSteps(l []api.Step) {
	l = l[:cap(l)]
	for i := range l {
		scribbleNumber(l[i].L)
		scribbleNumber(l[i].Delta)
		l[i] = api.Step{Var: 77}
	}
}

func (a answer) scribble() {
	scribbleTree(a.tree)
	scribbleSteps(a.steps)
	scribbleNumbers(a.list)
	if a.set != nil {
		scribbleNumbers(a.set.Cuts())
	}
}

// Neither the tree nor the values are changed, nor their spare room, nor are they kept; and what is done with what was
// answered, or handed in, changes no later answer (R3). The same call answers the same (R4).
func TestR3(t *testing.T) {
	d := &dice{state: 223}
	var seen [calls]int
	for range drawn {
		plain := d.asking()
		if plain.call == cost && d.roll(3) > 0 {
			plain.call = eliminate
		}
		q := roomy(plain)
		was := tellRoom(q)
		first := q.ask()
		if tellRoom(q) != was {
			t.Fatalf("%s changed what was handed in", plain)
		}
		wanted := first.String()
		second := q.ask()
		scribbleTree(q.tree)
		scribbleNumbers(q.vals)
		if first.String() != wanted || second.String() != wanted {
			t.Fatalf("%s: %s; then %s, want %s", plain, short(first.String()), short(second.String()), short(wanted))
		}
		first.scribble()
		if second.String() != wanted {
			t.Fatalf("%s: an answer is kept: %s, want %s", plain, short(second.String()), short(wanted))
		}
		if third := plain.ask().String(); third != wanted {
			t.Fatalf("%s: an answer is kept: %s, want %s", plain, short(third), short(wanted))
		}
		if first.e == api.OK {
			seen[plain.call]++
		}
	}
	if slices.Min(seen[:]) < drawn/50 {
		t.Errorf("seen: %v", seen)
	}
}

// The places of memory.

func textPlaces(s string) []any {
	var places []any
	for i := range len(s) {
		places = append(places, (*byte)(unsafe.Add(unsafe.Pointer(unsafe.StringData(s)), i)))
	}
	return places
}

func limbPlaces(a api.Int) []any {
	var places []any
	limbs := a.Mag[:cap(a.Mag)]
	for i := range limbs {
		places = append(places, &limbs[i])
	}
	return places
}

func treePlaces(t api.Tree) []any {
	places := append(textPlaces(t.Name), limbPlaces(t.N)...)
	names := t.Names[:cap(t.Names)]
	for i := range names {
		places = append(append(places, &names[i]), textPlaces(names[i])...)
	}
	kids := t.Kids[:cap(t.Kids)]
	for i := range kids {
		places = append(append(places, &kids[i]), treePlaces(kids[i])...)
	}
	return places
}

func numberPlaces(l []api.Int) []any {
	var places []any
	l = l[:cap(l)]
	for i := range l {
		places = append(append(places, &l[i]), limbPlaces(l[i])...)
	}
	return places
}

func stepPlaces(l []api.Step) []any {
	var places []any
	l = l[:cap(l)]
	for i := range l {
		places = append(append(append(places, &l[i]), limbPlaces(l[i].L)...), limbPlaces(l[i].Delta)...)
	}
	return places
}

// places are those of all that an answer tells; a list that is none of its own shows as places that come again.
func (a answer) places() []any {
	return slices.Concat(treePlaces(a.tree), stepPlaces(a.steps), numberPlaces(a.list))
}

// Answers are new memory: trees, names, steps, numbers; they share none with what was handed in, with another answer, or with
// one another (R3).
func TestR3AnswersAreNew(t *testing.T) {
	d := &dice{state: 224}
	steps, values, trees := 0, 0, 0
	for range drawn {
		q := roomy(d.asking())
		one, two := q.ask(), q.ask()
		seen := map[any]struct{}{}
		// What is handed in may have one text at several places.
		for _, place := range append(treePlaces(q.tree), numberPlaces(q.vals)...) {
			seen[place] = struct{}{}
		}
		for _, place := range append(one.places(), two.places()...) {
			if _, is := seen[place]; is {
				t.Fatalf("%s: %s: memory is shared", q, short(one.String()))
			}
			seen[place] = struct{}{}
		}
		if len(one.steps) > 1 {
			steps++
		}
		if len(one.list) > 1 {
			values++
		}
		if len(one.tree.Kids) > 1 {
			trees++
		}
	}
	if min(2*steps, values, trees) < drawn/50 {
		t.Errorf("seen: %d, %d, %d", steps, values, trees)
	}
}

// No answer hangs on what runs beside it, or ran ahead (R4); goroutines may ask about one tree.
func TestR4WhateverElseRuns(t *testing.T) {
	const hands = 8
	d := &dice{state: 225}
	var rows []asking
	for range 300 {
		rows = append(rows, d.asking())
	}
	row := func(from int) string {
		texts := make([]string, len(rows))
		for i := range rows {
			at := (i + from) % len(rows)
			texts[at] = rows[at].ask().String()
		}
		return strings.Join(texts, "\n")
	}
	wanted := row(0)
	var group sync.WaitGroup
	var got [hands]string
	for hand := range hands {
		group.Go(func() { got[hand] = row(37 * hand) })
	}
	group.Wait()
	for hand := range hands {
		if got[hand] != wanted {
			t.Fatal("answers differ where others run")
		}
	}
}
