package store_test

import (
	"iter"
	"slices"
	"strconv"
	"strings"
	"testing"

	"riddle/api"
	"riddle/store"
)

// named has formulas by these names.
func named(t *testing.T, names ...string) *store.Store {
	t.Helper()
	s := store.New()
	for _, name := range names {
		wantPut(t, s, name, below1(name), api.OK)
	}
	return s
}

// told is what an iterator tells from now on.
func told(names iter.Seq[string]) []string {
	var got []string
	for name := range names {
		got = append(got, name)
	}
	return got
}

// Byte by byte great letters stand ahead of small ones, ciphers ahead of letters, and the line between; what goes on stands
// behind what has ended.
func TestP223Rising(t *testing.T) {
	rising := []string{"A", "A1", "AA", "A_", "Aa", "Z", "a", "a0", "a00", "a1", "a10", "a2", "aA", "aZ", "a_", "a_b", "aa", "ab", "b", "x", "x9", "xx", "z", "zzz"}
	backwards := slices.Clone(rising)
	slices.Reverse(backwards)
	wantNames(t, named(t, rising...), rising...)
	wantNames(t, named(t, backwards...), rising...)
	d := &dice{state: 222}
	for range 100 {
		row := slices.Clone(rising)
		for i := range row {
			j := d.roll(i + 1)
			row[i], row[j] = row[j], row[i]
		}
		row = row[:1+d.roll(len(row))]
		s := named(t, row...)
		slices.SortFunc(row, func(a, b string) int { return slices.Compare([]byte(a), []byte(b)) })
		wantNames(t, s, row...)
		wantDrop(t, s, row[len(row)/2], api.OK)
		wantNames(t, s, slices.Delete(row, len(row)/2, len(row)/2+1)...)
	}
}

func TestP223Forty(t *testing.T) {
	s := store.New()
	var want []string
	for i := range mostNames {
		name := strings.Repeat("n", 1+i%20) + string(rune('a'+i/20))
		want = append(want, name)
		wantPut(t, s, name, yes(), api.OK)
	}
	slices.Sort(want)
	for range 20 {
		wantNames(t, s, want...)
	}
}

func TestR5Empty(t *testing.T) {
	s := store.New()
	dropped := named(t, "a", "b")
	wantDrop(t, dropped, "a", api.OK)
	wantDrop(t, dropped, "b", api.OK)
	for _, s := range []*store.Store{s, dropped} {
		names := s.Names()
		if names == nil {
			t.Fatal("nil")
		}
		for name := range names {
			t.Errorf("%q in an empty store", name)
		}
	}
}

func TestR5LeftEarly(t *testing.T) {
	want := []string{"a", "b", "c", "d", "e"}
	s := named(t, "d", "b", "e", "a", "c")
	names := s.Names()
	for most := range want {
		var got []string
		for name := range names {
			got = append(got, name)
			if len(got) > most {
				break
			}
		}
		if !slices.Equal(got, want[:most+1]) {
			t.Errorf("left behind %d: %q", most+1, got)
		}
		asked := 0
		names(func(string) bool { asked++; return asked <= most })
		if asked != most+1 {
			t.Errorf("asked %d times, wanted %d", asked, most+1)
		}
		if got := told(names); !slices.Equal(got, want) {
			t.Errorf("again: %q", got)
		}
	}
}

func TestR5WithinItself(t *testing.T) {
	want := []string{"a", "b", "c"}
	names := named(t, "c", "a", "b").Names()
	var outer []string
	for name := range names {
		outer = append(outer, name)
		var inner []string
		for name := range names {
			inner = append(inner, name)
			for range names {
				break
			}
		}
		if !slices.Equal(inner, want) {
			t.Errorf("within itself: %q", inner)
		}
	}
	if !slices.Equal(outer, want) {
		t.Errorf("about itself: %q", outer)
	}
}

// What there is when the range begins is told, not what there was when the iterator was answered.
func TestR5WhenTheRangeBegins(t *testing.T) {
	s := store.New()
	names := s.Names()
	wantPut(t, s, "b", yes(), api.OK)
	if got := told(names); !slices.Equal(got, []string{"b"}) {
		t.Errorf("behind a Put: %q", got)
	}
	wantPut(t, s, "a", yes(), api.OK)
	wantPut(t, s, "b", no(), api.OK)
	if got := told(names); !slices.Equal(got, []string{"a", "b"}) {
		t.Errorf("behind another: %q", got)
	}
	wantDrop(t, s, "b", api.OK)
	if got := told(names); !slices.Equal(got, []string{"a"}) {
		t.Errorf("behind a Drop: %q", got)
	}
}

// Nothing that is put or dropped on the way is seen by the range that is under way; the next one sees it.
func TestR5ChangedOnTheWay(t *testing.T) {
	s := named(t, "b", "d", "f")
	names := s.Names()
	var got []string
	for name := range names {
		got = append(got, name)
		switch len(got) {
		case 1:
			wantDrop(t, s, "b", api.OK)
			wantDrop(t, s, "d", api.OK)
			wantPut(t, s, "a", yes(), api.OK)
			wantPut(t, s, "c", yes(), api.OK)
		case 2:
			wantPut(t, s, "e", yes(), api.OK)
			wantPut(t, s, "f", no(), api.OK)
			if inner := told(names); !slices.Equal(inner, []string{"a", "c", "e", "f"}) {
				t.Errorf("a range that begins on the way: %q", inner)
			}
		case 3:
			wantPut(t, s, "g", yes(), api.OK)
		}
	}
	if !slices.Equal(got, []string{"b", "d", "f"}) {
		t.Errorf("changed on the way: %q", got)
	}
	wantNames(t, s, "a", "c", "e", "f", "g")
}

// All may be dropped while they are told, and as many again be put.
func TestR5AllDroppedOnTheWay(t *testing.T) {
	s := full(t)
	want := gone(s)
	var got []string
	for name := range s.Names() {
		got = append(got, name)
		wantDrop(t, s, name, api.OK)
		wantPut(t, s, "m"+strconv.Itoa(len(got)), yes(), api.OK)
	}
	if !slices.Equal(got, want) {
		t.Errorf("%q, want %q", got, want)
	}
	wantCounts(t, s, mostNames, mostNames)
	for name := range s.Names() {
		wantDrop(t, s, name, api.OK)
	}
	wantCounts(t, s, 0, 0)
}

// Two iterators of one store, and of two stores, go each their own way.
func TestR5SeveralAtOnce(t *testing.T) {
	s, other := named(t, "a", "b", "c"), named(t, "x", "y")
	one, stopOne := iter.Pull(s.Names())
	defer stopOne()
	two, stopTwo := iter.Pull(s.Names())
	defer stopTwo()
	three, stopThree := iter.Pull(other.Names())
	defer stopThree()
	text := ""
	for _, next := range []func() (string, bool){one, two, three, one, one, two, one, three, three, two, two, one} {
		name, is := next()
		text += name + strconv.FormatBool(is)[:1] + " "
	}
	if want := "at at xt bt ct bt f yt f ct f f "; text != want {
		t.Errorf("%s, want %s", text, want)
	}
}
