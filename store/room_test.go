package store_test

import (
	"strconv"
	"testing"

	"riddle/api"
	"riddle/store"
)

// full has as many formulas as may be.
func full(t *testing.T) *store.Store {
	t.Helper()
	s := store.New()
	for i := range mostNames {
		wantPut(t, s, "n"+strconv.Itoa(i), yes(), api.OK)
	}
	return s
}

func TestP221FortyNames(t *testing.T) {
	s := full(t)
	wantCounts(t, s, mostNames, mostNames)
	wantPut(t, s, "one", yes(), api.ErrStore)
	wantPut(t, s, "n", yes(), api.ErrStore)
	wantPut(t, s, "N1", yes(), api.ErrStore)
	for i := range mostNames {
		wantPut(t, s, "n"+strconv.Itoa(i), below1("x"), api.OK)
	}
	wantCounts(t, s, mostNames, 3*mostNames)
	wantPut(t, s, "one", yes(), api.ErrStore)
	wantDrop(t, s, "one", api.ErrUnknown)
	wantPut(t, s, "one", yes(), api.ErrStore)
	wantDrop(t, s, "n7", api.OK)
	wantPut(t, s, "one", yes(), api.OK)
	wantPut(t, s, "n7", yes(), api.ErrStore)
	wantCounts(t, s, mostNames, 3*(mostNames-1)+1)
}

// At the most names one that is there takes another formula, as long as the trees are no more than may be.
func TestP221FortyNamesAndNodes(t *testing.T) {
	s := full(t)
	rest := mostNodes - (mostNames - 1)
	wantPut(t, s, "n3", wide(rest+1), api.ErrStore)
	wantPut(t, s, "n3", wide(rest), api.OK)
	wantCounts(t, s, mostNames, mostNodes)
	wantPut(t, s, "n4", no(), api.OK)
	wantPut(t, s, "n4", not(no()), api.ErrStore)
	wantGet(t, s, "n4", no())
	wantPut(t, s, "one", yes(), api.ErrStore)
	wantDrop(t, s, "n5", api.OK)
	wantPut(t, s, "one", not(yes()), api.ErrStore)
	wantPut(t, s, "one", yes(), api.OK)
	wantCounts(t, s, mostNames, mostNodes)
}

func TestP221OneFormula(t *testing.T) {
	s := store.New()
	wantPut(t, s, "f", wide(mostNodes+1), api.ErrStore)
	wantPut(t, s, "f", wide(2*mostNodes), api.ErrStore)
	wantCounts(t, s, 0, 0)
	wantPut(t, s, "f", wide(mostNodes), api.OK)
	wantCounts(t, s, 1, mostNodes)
	wantPut(t, s, "f", wide(mostNodes+1), api.ErrStore)
	wantPut(t, s, "f", wide(mostNodes), api.OK)
	wantPut(t, s, "g", yes(), api.ErrStore)
	wantPut(t, s, "f", wide(mostNodes-1), api.OK)
	wantPut(t, s, "g", not(yes()), api.ErrStore)
	wantPut(t, s, "g", yes(), api.OK)
	wantCounts(t, s, 2, mostNodes)
}

// Just as many as may be, one more, and one in the place of a greater one, of a smaller one, of one that is as great.
func TestP221Together(t *testing.T) {
	for _, size := range []int{1, 3, 100, 1499, 1500, 1501, 2899} {
		s := store.New()
		wantPut(t, s, "a", wide(size), api.OK)
		wantPut(t, s, "b", wide(100), api.OK)
		if size+100 < mostNodes-2 {
			wantPut(t, s, "c", wide(mostNodes-size-100+1), api.ErrStore)
			wantPut(t, s, "c", wide(mostNodes-size-100), api.OK)
		} else {
			wantPut(t, s, "c", not(yes()), api.ErrStore)
			wantPut(t, s, "c", yes(), api.OK)
		}
		wantCounts(t, s, 3, mostNodes)
		wantPut(t, s, "b", wide(101), api.ErrStore)
		wantPut(t, s, "d", yes(), api.ErrStore)
		wantPut(t, s, "b", over(99, yes(), not), api.ErrDepth)
		wantPut(t, s, "b", wide(100), api.OK)
		wantPut(t, s, "b", wide(60), api.OK)
		wantPut(t, s, "d", wide(41), api.ErrStore)
		wantPut(t, s, "b", wide(101), api.ErrStore)
		wantPut(t, s, "d", wide(40), api.OK)
		wantPut(t, s, "b", wide(61), api.ErrStore)
		wantCounts(t, s, 4, mostNodes)
		wantDrop(t, s, "d", api.OK)
		wantPut(t, s, "b", wide(100), api.OK)
		wantCounts(t, s, 3, mostNodes)
		wantDrop(t, s, "b", api.OK)
		wantPut(t, s, "b", wide(101), api.ErrStore)
		wantPut(t, s, "e", wide(100), api.OK)
	}
}

// Refused as often as may be, nothing is counted that is not there; put and dropped as often as may be, neither.
func TestP221NothingAddsUp(t *testing.T) {
	s := store.New()
	wantPut(t, s, "a", wide(2000), api.OK)
	for i := range 200 {
		wantPut(t, s, "b", wide(1001), api.ErrStore)
		wantPut(t, s, "a", wide(3001), api.ErrStore)
		wantPut(t, s, "n"+strconv.Itoa(i), wide(1000), api.OK)
		wantPut(t, s, "n"+strconv.Itoa(i), wide(999), api.OK)
		wantDrop(t, s, "n"+strconv.Itoa(i), api.OK)
		wantDrop(t, s, "n"+strconv.Itoa(i), api.ErrUnknown)
		wantPut(t, s, "a", wide(2000), api.OK)
	}
	wantPut(t, s, "b", wide(1000), api.OK)
	wantCounts(t, s, 2, mostNodes)
}

// Each kind of tree is counted, terms too; a number or a name counts for nothing of its own.
func TestP223Nodes(t *testing.T) {
	for _, l := range []struct {
		text string
		size int
	}{
		{"true", 1}, {"not true", 2}, {"x < 1", 3}, {"-x < 2 * y + 3", 7}, {"3 divides x", 2}, {"18446744073709551617 divides x", 2}, {"some x y z . true", 2}, {"true and false and true", 4}, {"(true and false) and true", 5}, {"true implies false iff all x . x - 1 >= 2", 10},
	} {
		s := store.New()
		wantPut(t, s, "other", wide(7), api.OK)
		wantPut(t, s, "f", read(l.text), api.OK)
		if s.Nodes() != 7+l.size {
			t.Errorf("%s: %d nodes, want %d", l.text, s.Nodes()-7, l.size)
		}
	}
}
