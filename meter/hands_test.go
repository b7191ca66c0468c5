package meter_test

import (
	"runtime"
	"strconv"
	"sync"
	"sync/atomic"
	"testing"

	"riddle/api"
	"riddle/meter"
)

// together lets so many hands do something at one time: none begins before all are there.
func together(hands int, do func(hand int)) {
	var group sync.WaitGroup
	var there atomic.Int32
	for hand := range hands {
		group.Go(func() {
			there.Add(1)
			for int(there.Load()) < hands {
				runtime.Gosched()
			}
			do(hand)
		})
	}
	group.Wait()
}

// A done call is an act with what it answered, and with when it began and ended.
type done struct {
	act          act
	answer       int
	began, ended int64
}

// A place is how far an order of all calls has come: how many of each hand stand in it, and what the meter is by then.
type place struct {
	at    [4]int
	meter slow
}

// explained tells whether the calls can be put one behind the other so that each is answered as the slow meter does;
// a call that ended before another one began stands ahead of it.
func explained(rows [4][]done, from place, seen map[place]bool) bool {
	if seen[from] {
		return false
	}
	seen[from] = true
	first, left := int64(1<<62), false
	for hand, row := range rows {
		if from.at[hand] < len(row) {
			first, left = min(first, row[from.at[hand]].ended), true
		}
	}
	if !left {
		return true
	}
	for hand, row := range rows {
		if from.at[hand] == len(row) || row[from.at[hand]].began > first {
			continue
		}
		next := from
		next.at[hand]++
		call := row[from.at[hand]]
		if next.meter.do(call.act) == call.answer && explained(rows, next, seen) {
			return true
		}
	}
	return false
}

func tellRows(rows [4][]done) string {
	text := ""
	for _, row := range rows {
		text += "\n"
		for _, call := range row {
			text += call.act.String() + " is " + strconv.Itoa(call.answer) + " (" + strconv.Itoa(int(call.began)) + " to " + strconv.Itoa(int(call.ended)) + "); "
		}
	}
	return text
}

// The test itself must be able to fail: answers that no order explains are told from those that one does.
func TestExplained(t *testing.T) {
	begin := place{meter: slow{nodes: 1, limbs: 1}}
	may := func(first, second done) bool {
		return explained([4][]done{{first}, {second}}, begin, map[place]bool{})
	}
	if !may(done{node(), ok, 1, 3}, done{node(), errNodes, 2, 4}) || !may(done{node(), errNodes, 1, 3}, done{node(), ok, 2, 4}) {
		t.Error("one of two nodes is the first")
	}
	if may(done{node(), ok, 1, 3}, done{node(), ok, 2, 4}) || may(done{node(), errNodes, 1, 3}, done{node(), errNodes, 2, 4}) {
		t.Error("two nodes can't both be the first, nor both the second")
	}
	if may(done{node(), errNodes, 1, 2}, done{node(), ok, 3, 4}) || !may(done{node(), ok, 1, 2}, done{node(), errNodes, 3, 4}) {
		t.Error("what ended stands ahead of what began later")
	}
}

// Few calls of several hands are answered as if they were done one behind the other (P7.5).
func TestP75OneBehindTheOther(t *testing.T) {
	d := &dice{state: 78}
	for range drawn {
		nodes, limbs := 1+d.roll(12), 1+d.roll(2)
		m := made(t, nodes, limbs)
		var rows [4][]done
		for hand := range rows {
			for range 5 {
				rows[hand] = append(rows[hand], done{act: d.act(nodes, limbs)})
			}
		}
		var clock atomic.Int64
		together(len(rows), func(hand int) {
			row := rows[hand]
			for i := range row {
				row[i].began = clock.Add(1)
				row[i].answer = row[i].act.do(m)
				row[i].ended = clock.Add(1)
			}
		})
		if !explained(rows, place{meter: slow{nodes: nodes, limbs: limbs}}, map[place]bool{}) {
			t.Fatalf("New(%d, %d): no order explains%s", nodes, limbs, tellRows(rows))
		}
	}
}

// As many nodes are answered OK as were left, or all (P7.6), from however many hands.
func TestP76AsManyAsWereLeft(t *testing.T) {
	for _, c := range []struct{ nodes, ahead, hands, each int }{
		{2000, 0, 8, 250}, {2000, 0, 8, 249}, {2000, 0, 8, 251}, {2000, 0, 8, 1000}, {2000, 0, 16, 100}, {2000, 1234, 8, 300}, {2000, 2000, 8, 10},
		{1000, 0, 8, 100}, {7, 0, 8, 1}, {8, 0, 8, 1}, {1, 0, 16, 100}, {1, 1, 4, 4}, {100, 90, 16, 5}, {2000, 0, 1, 3000},
	} {
		for range 30 {
			m := made(t, c.nodes, 1)
			m.Spend(c.ahead)
			counts := make([]map[api.Errno]int, c.hands)
			together(c.hands, func(hand int) {
				count := map[api.Errno]int{}
				for range c.each {
					count[m.Node()]++
				}
				counts[hand] = count
			})
			total := map[api.Errno]int{}
			for _, count := range counts {
				for e, n := range count {
					total[e] += n
				}
			}
			calls := c.hands * c.each
			fine := min(calls, c.nodes-c.ahead)
			if total[api.OK] != fine || total[api.ErrNodes] != calls-fine || m.Spent() != c.ahead+fine || (m.Over() == api.ErrNodes) != (calls > fine) {
				t.Fatalf("%+v: answers %v, counted %d, crossed %v", c, total, m.Spent(), m.Over())
			}
		}
	}
}

// busy does calls of Spend and Node mixed till the meter is over, and looks at it in between.
func busy(t *testing.T, m *meter.Meter, d *dice, nodes int, last act) (counted int, crossed api.Errno) {
	was := 0
	for range 400 {
		a := []act{node(), node(above(5, 0)), spend(0), spend(1), spend(2), spend(5), spend(-1)}[d.roll(7)]
		if d.roll(90) == 0 {
			a = last
		}
		e := api.Errno(a.do(m))
		switch {
		case e == api.OK && a.kind == isNode:
			counted++
		case e == api.OK:
			counted += a.n
		case e == api.ErrArg && a.kind == isSpend && a.n < 0 && crossed == api.OK:
		case e != api.ErrNodes && e != api.ErrLimbs || crossed != api.OK && e != crossed:
			t.Errorf("%s: %v, what was crossed is %v", a, e, crossed)
		default:
			crossed = e
		}
		if e == api.OK && crossed != api.OK {
			t.Errorf("%s is done behind %v", a, crossed)
		}
		if now := m.Spent(); now < was || now > nodes || now < counted {
			t.Errorf("%d was counted, now %d, of it %d by one hand", was, now, counted)
		} else {
			was = now
		}
	}
	return counted, crossed
}

// With Spend and Node mixed what was counted is the sum of what was answered OK, never falls, and is at most nodes;
// all hands see one crossing (P7.5, P7.6).
func TestP76Mixed(t *testing.T) {
	const hands = 8
	crossings := map[api.Errno]int{}
	for round := range 300 {
		nodes := []int{2000, 1500, 400, 30}[round%4]
		last := []act{node(wide(2)), spend(most), spend(nodes + 1), node(api.Int{}, widest(8))}[round/4%4]
		m := made(t, nodes, 1)
		var counted [hands]int
		var crossed [hands]api.Errno
		together(hands, func(hand int) {
			counted[hand], crossed[hand] = busy(t, m, &dice{state: uint64(100*round + hand)}, nodes, last)
		})
		total := 0
		for hand := range hands {
			total += counted[hand]
			if crossed[hand] != api.OK && crossed[hand] != m.Over() {
				t.Fatalf("a hand saw %v, the meter says %v", crossed[hand], m.Over())
			}
		}
		if total != m.Spent() || total > nodes {
			t.Fatalf("round %d: %d were answered OK, %d counted, of %d", round, total, m.Spent(), nodes)
		}
		crossings[m.Over()]++
	}
	if crossings[api.ErrNodes] == 0 || crossings[api.ErrLimbs] == 0 {
		t.Error("not each bound was crossed", crossings)
	}
}

// Once a hand has seen that something was crossed, nothing is counted any more: the two change together.
func TestP75NothingBehindACrossing(t *testing.T) {
	for round := range 1000 {
		m := made(t, 2000, 1)
		cross := []act{node(wide(2)), spend(most)}[round%2]
		var behind [3]int
		var ended atomic.Bool
		together(6, func(hand int) {
			switch hand {
			case 0:
				for range 10 + round%50 {
					m.Node()
				}
				cross.do(m)
				ended.Store(true)
			case 1, 2, 3:
				for m.Over() == api.OK && !ended.Load() {
					runtime.Gosched()
				}
				behind[hand-1] = m.Spent()
			default:
				for m.Spend(1) == api.OK && m.Spent() < 1900 {
				}
			}
		})
		if m.Over() == api.OK {
			t.Fatalf("%s crosses nothing", cross)
		}
		for _, saw := range behind {
			if saw != m.Spent() {
				t.Fatalf("%d were counted behind the crossing, then %d", saw, m.Spent())
			}
		}
	}
}

// Of two bounds that several hands cross at one time, one is crossed, and all are told that one.
func TestP75OneCrossing(t *testing.T) {
	for range 1000 {
		m := made(t, 1, 1)
		var first, second [8]api.Errno
		together(8, func(hand int) {
			if hand%2 == 0 {
				first[hand] = m.Node(wide(2))
			} else {
				first[hand] = m.Spend(2)
			}
			second[hand] = m.Over()
		})
		for hand := range 8 {
			if first[hand] != m.Over() || second[hand] != m.Over() || m.Spent() != 0 {
				t.Fatalf("%v, then %v, in the end %v, counted %d", first, second, m.Over(), m.Spent())
			}
		}
	}
}

// Hands at different meters don't disturb each other.
func TestP75ManyMeters(t *testing.T) {
	const hands = 8
	var meters [hands]*meter.Meter
	for i := range hands {
		meters[i] = made(t, 50+i, 1+i)
	}
	together(hands, func(hand int) {
		d, s := &dice{state: uint64(hand)}, &slow{nodes: 50 + hand, limbs: 1 + hand}
		for range 300 {
			a := d.act(10, 1+hand)
			if got, want := a.do(meters[hand]), s.do(a); got != want {
				t.Errorf("%s: %d, want %d", a, got, want)
				return
			}
		}
	})
}

// Several hands may hand in the same numbers.
func TestP75SameNumbers(t *testing.T) {
	m := made(t, 2000, 2)
	l := roomy([]api.Int{above(1), below(0, top), noughts(wide(2), 3)})
	was := tellRoom(l)
	together(8, func(int) {
		for range 250 {
			if e := m.Node(l...); e != api.OK {
				t.Errorf("%v", e)
				return
			}
		}
	})
	if m.Spent() != 2000 || m.Over() != api.OK || tellRoom(l) != was {
		t.Error(m.Spent(), m.Over(), tellRoom(l))
	}
}
