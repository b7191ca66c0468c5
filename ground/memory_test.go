package ground_test

import (
	"slices"
	"strconv"
	"strings"
	"sync"
	"testing"
	"time"

	"riddle/api"
	"riddle/arena"
	"riddle/ground"
)

// soon fails unless Count answers so in some seconds: what goes every way down would go on for ever, and what takes the
// whole row for each atom nearly so.
func soon(t *testing.T, what string, a *arena.Arena, id int, l [][]api.Value, want int, wantE api.Errno) {
	t.Helper()
	type answer struct {
		count int
		e     api.Errno
	}
	done := make(chan answer, 1)
	go func() {
		count, e := ground.Count(a, id, l)
		done <- answer{count, e}
	}()
	select {
	case got := <-done:
		if got != (answer{want, wantE}) {
			t.Errorf("%s: %d, %v, want %d, %v", what, got.count, got.e, want, wantE)
		}
	case <-time.After(60 * time.Second):
		t.Fatalf("%s: doesn't end", what)
	}
}

// Of nodes that are reached on more ways than could be gone each is looked at once a row: each rung hangs at the two above
// it, and has an atom of its own, so that no two of them come to the same.
func TestR1ManyWays(t *testing.T) {
	const rungs = 900
	a := arena.New(nil)
	ladder := func(first, last int) int {
		for i := range rungs {
			first, last = last, laid(a.Join(api.And+i%2, first, last, less(0, p(2+i, 1))(a)))
		}
		return last
	}
	id := ladder(x(1, 0)(a), y(1, 0)(a))
	was := tellArena(a)
	// values are below 0 for each of-th variable, from one on, else above.
	values := func(from, of int) []api.Value {
		var vals []api.Value
		for i := range rungs + 2 {
			vals = append(vals, val(i, 2*min((i+from)%of, 1)-1))
		}
		return vals
	}
	// The last rung is an Or with an atom of its own.
	allTrue, allFalse, lastAlone := values(1, most), values(0, 1), values(0, 1)
	lastAlone[rungs+1] = val(rungs+1, 1)
	soon(t, "many ways", a, id, rows(allTrue, allFalse, lastAlone, allFalse), 2, api.OK)
	soon(t, "without a value", a, id, rows(allTrue, allTrue[1:]), 0, api.ErrArity)
	want := 0
	var l [][]api.Value
	for from := range 40 {
		vals := values(from, 3+from%5)
		l = append(l, vals)
		isSo := func(v int) bool { return !vals[v].N.Neg }
		first, last := isSo(0), isSo(1)
		for i := range rungs {
			next := first && last && isSo(2+i)
			if i%2 == 1 {
				next = first || last || isSo(2+i)
			}
			first, last = last, next
		}
		if last {
			want++
		}
	}
	soon(t, "many ways, many rows", a, id, l, want, api.OK)
	if tellArena(a) != was {
		t.Error("something was made")
	}
	a = arena.New(nil)
	soon(t, "with a quantifier far below", a, ladder(some(0, x(1, 0))(a), y(1, 0)(a)), rows(allTrue), 0, api.ErrQuant)
}

// Formulas that are nested as deep as a meter lets them.
func TestR1Deep(t *testing.T) {
	a := arena.New(nil)
	f, g, h := x(1, 0)(a), y(1, 0)(a), z(1, 0)(a)
	deep := func(id, levels int) int {
		for i := range levels {
			id = laid(a.Join(api.And+i%2, id, []int{g, h}[i%2]))
		}
		return id
	}
	const levels = 1990
	id := deep(f, levels)
	for bits := range 8 {
		// An And with y, then an Or with z, again and again.
		isX, isY, isZ := bits&1 > 0, bits&2 > 0, bits&4 > 0
		truth(t, a, id, signs(bits), isZ || isX && isY, api.OK)
		soon(t, "what is deep", a, laid(a.Join(api.Or, id, 0)), rows(signs(bits)), count(isZ || isX && isY), api.OK)
	}
	refuses(t, a, id, at(1, 1), api.ErrArity)
	refuses(t, a, id, row(val(1, 1), val(2, 1)), api.ErrArity)
	// The quantifier is the deepest of all.
	a = arena.New(nil)
	f, g, h = some(0, x(1, 0))(a), y(1, 0)(a), z(1, 0)(a)
	id = deep(f, levels)
	refuses(t, a, id, at(1, 1, 1), api.ErrQuant)
	refuses(t, a, id, nil, api.ErrQuant)
	counts(t, a, id, nil, 0, api.ErrQuant)
}

func count(is bool) int {
	if is {
		return 1
	}
	return 0
}

// Formulas as wide as may be, each atom with a variable of its own; terms of very many parts; nodes with very many kids
// each.
func TestR1Wide(t *testing.T) {
	const many = 1990
	a := arena.New(nil)
	var ids []int
	for v := range many {
		ids = append(ids, less(0, p(v, 1), p(v+1, 2))(a))
	}
	both, either := laid(a.Join(api.And, ids...)), laid(a.Join(api.Or, ids...))
	ones, noughts := make([]api.Value, 0, many+1), make([]api.Value, 0, many+1)
	for v := many; v >= 0; v-- {
		ones, noughts = append(ones, val(v, 1)), append(noughts, val(v, 0))
	}
	// Only the last atom is false, only the last one is true.
	missed, met := slices.Clone(ones), slices.Clone(noughts)
	missed[0], met[0] = val(many, -1), val(many, 1)
	l := slices.Repeat(rows(ones, noughts, missed, met), 10)
	soon(t, "a wide And", a, both, l, 10, api.OK)
	soon(t, "a wide Or", a, either, l, 30, api.OK)
	soon(t, "a wide Or, without a value", a, either, append(l, ones[:many]), 0, api.ErrArity)
	soon(t, "a wide And, without a value", a, both, append(l, noughts[1:]), 0, api.ErrArity)

	a = arena.New(nil)
	var parts []api.Part
	var vals []api.Value
	const long = 100000
	for v := range long {
		parts, vals = append(parts, p(v, 1+v%7)), append(vals, val(long-1-v, 2*(v%2)-1))
	}
	id := or(less(3, parts...), div(1000, 5, parts...))(a)
	sum := 3
	for v := range long {
		sum += (1 + v%7) * (1 - 2*(v%2))
	}
	soon(t, "long terms", a, id, rows(vals, vals), 2*count(sum > 0 || modulo(sum+2, 1000) == 0), api.OK)
	soon(t, "long terms, without a value", a, id, rows(vals, vals[1:]), 0, api.ErrArity)

	a = arena.New(nil)
	ids = []int{x(1, 0)(a), y(1, 0)(a)}
	for i := range 1500 {
		ids = append(ids, laid(a.Join(api.And+i%2, ids...)))
	}
	// Each And has both atoms among its kids, and so has each Or.
	soon(t, "many kids", a, ids[1500], rows(at(1, 1), at(1, 0), at(0, 0), at(0, 1)), 1, api.OK)
	soon(t, "many kids", a, ids[1501], rows(at(1, 1), at(1, 0), at(0, 0), at(0, 1)), 3, api.OK)
}

// Very many rows, very long ones, and very great numbers.
func TestR1Long(t *testing.T) {
	a := arena.New(nil)
	id := and(xy(1, -1, 0), or(div(2, 0, p(0, 1)), not(3, 1, p(1, 1))))(a)
	const many = 200000
	var l [][]api.Value
	want := 0
	for i := range many {
		v, w := i%1000-500, i/1000-100
		l = append(l, at(v, w))
		want += count(v > w && (modulo(v, 2) == 0 || modulo(w+1, 3) != 0))
	}
	soon(t, "many rows", a, id, l, want, api.OK)
	soon(t, "many rows, the last one without a value", a, id, append(l, at(1)), 0, api.ErrArity)

	var vals []api.Value
	for i := range 1000000 {
		vals = append(vals, val(2+i, i))
	}
	vals = append(vals, val(0, 4), val(1, 3), val(0, -4))
	soon(t, "long rows", a, id, rows(vals, vals), 2, api.OK)
	soon(t, "long rows, without a value", a, id, rows(vals, vals[:len(vals)-2]), 0, api.ErrArity)
	wideAnd := arena.New(nil)
	var ids []int
	for v := range 1900 {
		ids = append(ids, less(v, p(500000+v, 1))(wideAnd))
	}
	soon(t, "a long row for many atoms", wideAnd, laid(wideAnd.Join(api.And, ids...)), rows(vals), 1, api.OK)

	const limbs = 300000
	soon(t, "great numbers", a, id, rows(bigAt(wide(limbs), widest(limbs-1)), bigAt(widest(limbs-1), wide(limbs)), bigAt(opposite(widest(limbs)), opposite(wide(limbs+1)))), 1, api.OK)
}

// kept is a row, and all of its memory, spare room too, as it is told.
func kept(l [][]api.Value) string {
	var b strings.Builder
	for _, vals := range l[:cap(l)] {
		b.WriteString(strconv.Itoa(len(vals)) + " of ")
		for _, value := range vals[:cap(vals)] {
			b.WriteString("v" + strconv.Itoa(value.Var) + " is " + strconv.Itoa(len(value.N.Mag)) + " of " + tellInt(api.Int{Neg: value.N.Neg, Mag: value.N.Mag[:cap(value.N.Mag)]}) + ", ")
		}
		b.WriteString("\n")
	}
	return b.String()
}

// roomy is the same rows in memory of their own, with spare room everywhere.
func roomy(l [][]api.Value) [][]api.Value {
	room := make([][]api.Value, 0, len(l)+2)
	for _, vals := range l {
		copied := make([]api.Value, 0, len(vals)+2)
		for _, value := range vals {
			mag := append(make([]uint32, 0, len(value.N.Mag)+2), value.N.Mag...)
			copied = append(copied, api.Value{Var: value.Var, N: api.Int{Neg: value.N.Neg, Mag: mag}})
		}
		room = append(room, copied)
	}
	return room
}

// spoil overwrites rows, their spare room too.
func spoil(l [][]api.Value) {
	for _, vals := range l {
		for i := range vals[:cap(vals)] {
			value := &vals[:cap(vals)][i]
			for j := range value.N.Mag[:cap(value.N.Mag)] {
				value.N.Mag[:cap(value.N.Mag)][j] = 55
			}
			*value = val(55, 55)
		}
	}
	clear(l[:cap(l)])
}

// What is handed in stays as it is, and is not kept (R3): its owner may overwrite it, and the next answer is the same. The
// same call again answers the same; the arena stays as it is.
func TestR3WhatIsHandedIn(t *testing.T) {
	d := &dice{state: 178}
	refused, between := map[api.Errno]int{}, 0
	for range drawn {
		a := grown(t, d, 2000, 8)
		q, nodes := d.asking(a), tellArena(a)
		l := roomy(q.rows)
		was := kept(l)
		count, e := ground.Count(a, q.id, l)
		var evals []bool
		var es []api.Errno
		for _, vals := range l {
			is, e := ground.Eval(a, q.id, vals)
			evals, es = append(evals, is), append(es, e)
		}
		if again, e2 := ground.Count(a, q.id, l); again != count || e2 != e {
			t.Fatalf("%s: %d, %v; then %d, %v", q, count, e, again, e2)
		}
		if kept(l) != was || tellArena(a) != nodes {
			t.Fatalf("%s changed what was there:\n%s\nwas\n%s", q, kept(l), was)
		}
		spoil(l)
		if again, e2 := ground.Count(a, q.id, q.rows); again != count || e2 != e || tellArena(a) != nodes {
			t.Fatalf("%s: %d, %v; when the rows were overwritten %d, %v", q, count, e, again, e2)
		}
		for i, vals := range q.rows {
			if is, e := ground.Eval(a, q.id, vals); is != evals[i] || e != es[i] {
				t.Fatalf("of %d, %s: %v, %v; when the rows were overwritten %v, %v", q.id, tellRow(vals), evals[i], es[i], is, e)
			}
		}
		refused[e]++
		if count > 0 && count < len(q.rows) {
			between++
		}
	}
	if min(refused[api.ErrNode], refused[api.ErrQuant], refused[api.ErrArity]) < drawn/50 || between < drawn/10 {
		t.Errorf("refused %v, %d true under some alone", refused, between)
	}
}

// Rows that share memory with one another, and with what the formula was made of.
func TestR3SharedRows(t *testing.T) {
	k := n(5)
	a := arena.New(nil)
	id := and(bigLess(opposite(k), p(0, 1)), bigLess(k, p(1, -1)))(a)
	shared := row(bigVal(1, k), bigVal(0, k), val(0, 6), val(1, 4), val(0, 7))
	l := rows(shared, shared[1:], shared[2:], shared[2:4], shared[3:])
	counts(t, a, id, l, 3, api.OK)
	counts(t, a, id, slices.Repeat(l, 3), 9, api.OK)
	k.Mag[0] = 3
	counts(t, a, id, l, 3, api.OK)
	counts(t, a, id, rows(shared[:2]), 0, api.OK)
}

// No answer hangs on what runs beside it (R4): several hands may ask of one arena at one time.
func TestR4WhateverElseRuns(t *testing.T) {
	const hands = 8
	d := &dice{state: 179}
	var arenas []*arena.Arena
	var askings []asking
	for range 300 {
		a := grown(t, d, 2000, 8)
		arenas, askings = append(arenas, a), append(askings, d.asking(a))
	}
	answers := func() string {
		var b strings.Builder
		for i, q := range askings {
			count, e := ground.Count(arenas[i], q.id, q.rows)
			b.WriteString(strconv.Itoa(count) + " " + e.Error() + "\n")
			for _, vals := range q.rows {
				is, e := ground.Eval(arenas[i], q.id, vals)
				b.WriteString(strconv.FormatBool(is) + " " + e.Error() + "\n")
			}
		}
		return b.String()
	}
	wanted := answers()
	var group sync.WaitGroup
	var got [hands]string
	for hand := range hands {
		group.Go(func() { got[hand] = answers() })
	}
	group.Wait()
	for hand := range hands {
		if got[hand] != wanted {
			t.Fatal("answers differ where others run")
		}
	}
}
