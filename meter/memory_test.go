package meter_test

import (
	"math"
	"reflect"
	"slices"
	"testing"

	"riddle/api"
	"riddle/meter"
)

// A method on a nil pointer answers ErrArg, where it answers an error, else zero (R1), and does nothing.
func TestR1NilMeter(t *testing.T) {
	var m *meter.Meter
	for range 2 {
		for _, a := range []act{node(), node(above(1)), node(wide(9)), spend(0), spend(1), spend(-1), spend(most), spend(math.MinInt), over()} {
			if got := a.do(m); got != errArg {
				t.Errorf("%s of a nil meter: %d, want ErrArg", a, got)
			}
		}
		if got := m.Spent(); got != 0 {
			t.Errorf("Spent of a nil meter: %d", got)
		}
	}
}

// Beside an error all else is zero (R2): no meter is answered.
func TestR2NoMeterBesideErrors(t *testing.T) {
	for nodes := -1; nodes <= 2001; nodes++ {
		for limbs := -1; limbs <= 9; limbs++ {
			if m, e := meter.New(nodes, limbs); (m == nil) != (e != api.OK) {
				t.Errorf("New(%d, %d): %v, %v", nodes, limbs, m, e)
			}
		}
	}
}

// What is refused leaves what was counted as it was (R2); so does the crossing itself.
func TestR2RefusedCountsNothing(t *testing.T) {
	d := &dice{state: 72}
	refused := 0
	for range drawn {
		nodes, limbs := 1+d.roll(20), 1+d.roll(api.MaxLimbs)
		m := made(t, nodes, limbs)
		for range 20 {
			a, was, crossed := d.act(nodes, limbs), m.Spent(), m.Over()
			if a.kind == isSpent || a.kind == isOver {
				continue
			}
			got := a.do(m)
			if got == ok {
				continue
			}
			refused++
			if m.Spent() != was || got == errArg && m.Over() != crossed || got != errArg && int(m.Over()) != got {
				t.Fatalf("%s answers %d: %d, %v becomes %d, %v", a, got, was, crossed, m.Spent(), m.Over())
			}
		}
	}
	if refused < drawn {
		t.Errorf("%d were refused", refused)
	}
}

// roomy is a list of numbers with marked spare room behind each list.
func roomy(l []api.Int) []api.Int {
	l = slices.Clone(l)
	for i := range l {
		l[i].Mag = append(slices.Clone(l[i].Mag), 0xabcd, 0xabcd, 0xabcd)[:len(l[i].Mag)]
	}
	return append(l, wide(20), wide(20), wide(20))[:len(l)]
}

// tellRoom tells spare room, too.
func tellRoom(l []api.Int) string {
	text := ""
	for _, n := range l[:cap(l)] {
		n.Mag = n.Mag[:cap(n.Mag)]
		text += tellInt(n) + ";"
	}
	return text
}

func scribble(l []api.Int) {
	for i := range l {
		limbs := l[i].Mag[:cap(l[i].Mag)]
		for j := range limbs {
			limbs[j] ^= top
		}
		l[i] = api.Int{Neg: !l[i].Neg, Mag: slices.Repeat([]uint32{top}, 30)}
	}
}

// Numbers that are handed in stay as they are, their spare room too (R3).
func TestR3NumbersStay(t *testing.T) {
	d := &dice{state: 73}
	for range drawn {
		nodes, limbs := 1+d.roll(4), 1+d.roll(api.MaxLimbs)
		m := made(t, nodes, limbs)
		for range 6 {
			var l []api.Int
			for range d.roll(5) {
				l = append(l, d.number(limbs))
			}
			l = roomy(l)
			was := tellRoom(l)
			m.Node(l...)
			if now := tellRoom(l); now != was {
				t.Fatalf("%s became %s", was, now)
			}
		}
	}
}

// Spare room doesn't count: neither the numbers behind a list's end nor the limbs behind a number's.
func TestR3SpareRoomIsNotLookedAt(t *testing.T) {
	l := roomy([]api.Int{above(1), above(top)})
	follow(t, 3, 1, line{node(l...), ok}, line{node(l[:1]...), ok}, line{node(l[:0]...), ok}, line{over(), ok}, line{spent(), 3})
}

// What becomes of numbers once the call has answered is nothing to the meter (R3).
func TestR3NothingIsKept(t *testing.T) {
	d := &dice{state: 74}
	for range drawn {
		nodes, limbs := 1+d.roll(12), 1+d.roll(api.MaxLimbs)
		m, s := made(t, nodes, limbs), &slow{nodes: nodes, limbs: limbs}
		for range 12 {
			a := d.act(nodes, limbs)
			a.numbers = roomy(a.numbers)
			want := s.do(a)
			got := a.do(m)
			scribble(a.numbers)
			if got != want || m.Spent() != s.counted || m.Over() != s.crossed {
				t.Fatalf("%s: %d, want %d", a, got, want)
			}
		}
	}
}

// A meter has no place that could lead to a number: it is two bounds and a word.
func TestR3NoRoomToKeep(t *testing.T) {
	var look func(of reflect.Type)
	look = func(of reflect.Type) {
		switch of.Kind() {
		case reflect.Struct:
			for i := range of.NumField() {
				look(of.Field(i).Type)
			}
		case reflect.Array:
			look(of.Elem())
		case reflect.Pointer, reflect.Slice, reflect.Map, reflect.Interface, reflect.Func, reflect.Chan, reflect.String, reflect.UnsafePointer:
			t.Errorf("a meter has a field that is a %v", of)
		}
	}
	look(reflect.TypeFor[meter.Meter]())
}

// Numbers that are handed in together may be the same memory, or overlap.
func TestR3ListsThatOverlap(t *testing.T) {
	limbs := []uint32{6, 0, top, 0, 0, 9, 0}
	one, two := above(limbs[:1]...), api.Int{Neg: true, Mag: limbs[1:5]}
	follow(t, 3, 2, line{node(one, one, two, two), ok}, line{node(above(limbs[:2]...), two), ok}, line{node(one, two, above(limbs[:3]...)), errLimbs})
	if !slices.Equal(limbs, []uint32{6, 0, top, 0, 0, 9, 0}) {
		t.Error("the limbs were changed", limbs)
	}
}

// Two meters have nothing to do with each other, of the same bounds or not.
func TestTwoMeters(t *testing.T) {
	a, b := made(t, 3, 2), made(t, 3, 2)
	if a == b {
		t.Fatal("two calls of New answer one meter")
	}
	if a.Node() != api.OK || a.Spent() != 1 || b.Spent() != 0 {
		t.Error("a node is counted by another meter", a.Spent(), b.Spent())
	}
	if a.Spend(3) != api.ErrNodes || b.Over() != api.OK || b.Spend(3) != api.OK || a.Spent() != 1 || b.Spent() != 3 {
		t.Error("points are counted by another meter", a.Spent(), b.Spent())
	}
	if b.Node(wide(3)) != api.ErrLimbs || a.Over() != api.ErrNodes || b.Over() != api.ErrLimbs {
		t.Error("a crossing is another meter's", a.Over(), b.Over())
	}
	if c := made(t, 3, 2); c.Spent() != 0 || c.Over() != api.OK || c.Node() != api.OK {
		t.Error("a new meter knows of others", c.Spent(), c.Over())
	}
	d := &dice{state: 75}
	const count = 6
	var meters [count]*meter.Meter
	var slows [count]slow
	for i := range count {
		slows[i] = slow{nodes: 40 + 7*(i/2), limbs: 1 + i}
		meters[i] = made(t, slows[i].nodes, slows[i].limbs)
	}
	for range 400 {
		i := d.roll(count)
		c := d.act(8, slows[i].limbs)
		if got, want := c.do(meters[i]), slows[i].do(c); got != want {
			t.Fatalf("meter %d: %s: %d, want %d", i, c, got, want)
		}
		for j := range count {
			if meters[j].Spent() != slows[j].counted || meters[j].Over() != slows[j].crossed {
				t.Fatalf("%s of meter %d: meter %d has %d, %v", c, i, j, meters[j].Spent(), meters[j].Over())
			}
		}
	}
}

// The same calls are answered alike, however often they are done (R4).
func TestR4OneAnswer(t *testing.T) {
	d := &dice{state: 77}
	for range drawn / 10 {
		nodes, limbs := 1+d.roll(20), 1+d.roll(api.MaxLimbs)
		var row []act
		for range 25 {
			row = append(row, d.act(nodes, limbs))
		}
		var first []int
		for round := range 4 {
			m := made(t, nodes, limbs)
			for i, a := range row {
				got := a.do(m)
				if round == 0 {
					first = append(first, got)
				}
				if got != first[i] {
					t.Fatalf("%s: %d, then %d", a, first[i], got)
				}
			}
		}
	}
}
