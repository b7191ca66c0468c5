package ground_test

import (
	"slices"
	"testing"

	"riddle/api"
	"riddle/arena"
	"riddle/ground"
)

// Of no rows it is 0, whatever the formula is, also where a row without values would be refused.
func TestP172NoRows(t *testing.T) {
	a := arena.New(nil)
	for _, id := range append(layAll(a, of(x(1, 0), and(x(1, 0), y(1, 0)), or(always(), z(1, 0)))), 0, 1) {
		counts(t, a, id, nil, 0, api.OK)
		counts(t, a, id, rows(), 0, api.OK)
	}
}

// A row counts as often as it is there; rows without values count for the constants.
func TestP172EachRow(t *testing.T) {
	a := arena.New(nil)
	f := and(xy(1, -1, 0), div(2, 0, p(0, 1)))(a)
	yes, no := at(4, 3), at(4, 4)
	for often := range 5 {
		for seldom := range 4 {
			l := slices.Concat(slices.Repeat(rows(yes), often), slices.Repeat(rows(no), seldom))
			counts(t, a, f, l, often, api.OK)
			slices.Reverse(l)
			counts(t, a, f, l, often, api.OK)
			counts(t, a, f, slices.Concat(l, rows(yes), l), 2*often+1, api.OK)
			counts(t, a, 1, l, len(l), api.OK)
			counts(t, a, 0, l, 0, api.OK)
		}
	}
	counts(t, a, 1, rows(nil, nil, row()), 3, api.OK)
	counts(t, a, 0, rows(nil, nil, row()), 0, api.OK)
}

// Rows of different lengths, with values in any order, with more than one of a variable, and with others: each stands for
// itself, and no value of one is another one's.
func TestP172RowsOfTheirOwn(t *testing.T) {
	a := arena.New(nil)
	f := or(xy(1, -1, 0), div(5, 0, p(0, 1)))(a)
	l := rows(at(4, 3), row(val(1, 3), val(0, 4)), row(val(0, 4), val(0, -4), val(1, 3)), row(val(7, 1), val(1, 9), val(8, 1), val(0, 5), val(7, 2), val(1, 0)), at(3, 3, 3, 3, 3, 3, 3, 3), row(val(1, 9), val(0, 4), val(1, 3)), bigAt(wide(20), widest(19)), bigAt(widest(19), wide(20)), at(-5, 0))
	// 2^32 leaves 1 by 5: so the last but one is true.
	want := []bool{true, true, true, true, false, false, true, true, true}
	total := 0
	for i, vals := range l {
		truth(t, a, f, vals, want[i], api.OK)
		if want[i] {
			total++
		}
		counts(t, a, f, l[:i+1], total, api.OK)
	}
	counts(t, a, f, l, 7, api.OK)
	// A value of the row ahead is none of the next one; nor is one of a row that was refused.
	counts(t, a, f, rows(at(4, 3), at(4)), 0, api.ErrArity)
	counts(t, a, f, rows(at(4, 3), row(val(1, 3))), 0, api.ErrArity)
	counts(t, a, f, rows(at(4), row(val(1, 3))), 0, api.ErrArity)
}

// One row without a value is enough, wherever it stands, whatever the others are: ErrArity, and 0.
func TestP172OneRowWithoutAValue(t *testing.T) {
	a := arena.New(nil)
	for _, f := range layAll(a, of(and(x(1, 0), y(1, 0)), or(x(1, 0), y(1, 0)), xy(1, 1, 0))) {
		for many := range 7 {
			l := slices.Repeat(rows(at(1, 1), at(-1, -1)), many)
			counts(t, a, f, l, many, api.OK)
			for place := range len(l) + 1 {
				for _, short := range rows(nil, at(1), at(-1), row(val(1, 1)), row(val(1, -1)), row(val(2, 1), val(3, 1), val(0, 1), val(0, 1))) {
					counts(t, a, f, slices.Insert(slices.Clone(l), place, short), 0, api.ErrArity)
				}
				counts(t, a, f, slices.Insert(slices.Clone(l), place, nil, nil), 0, api.ErrArity)
			}
		}
	}
	// Where no variable is free, no row can be without a value.
	counts(t, a, 1, rows(nil, at(1), nil), 3, api.OK)
}

// What Eval answers row by row is what Count adds up.
func TestP172IsEvalAddedUp(t *testing.T) {
	d := &dice{state: 171}
	refused, between := map[api.Errno]int{}, 0
	for range drawn {
		a := grown(t, d, 8+d.roll(60), 1+d.roll(3))
		q := d.asking(a)
		want, wantE := 0, api.OK
		for _, vals := range q.rows {
			is, e := ground.Eval(a, q.id, vals)
			if is {
				want++
			}
			if e != api.OK {
				wantE = e
			}
		}
		if wantE != api.OK {
			want = 0
		}
		count, e := ground.Count(a, q.id, q.rows)
		if len(q.rows) > 0 && (count != want || e != wantE) {
			t.Fatalf("%s: %d, %v, want %d, %v, in\n%s", q, count, e, want, wantE, tellArena(a))
		}
		refused[e]++
		if count > 0 && count < len(q.rows) {
			between++
		}
	}
	if min(refused[api.ErrNode], refused[api.ErrQuant], refused[api.ErrArity]) < drawn/50 || between < drawn/10 {
		t.Errorf("refused %v, %d true under some alone", refused, between)
	}
}
