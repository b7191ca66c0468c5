package verdict_test

import (
	"testing"

	"riddle/api"
)

// long has a number of 9 limbs, tooMany a node more than may be.
func long() api.Tree { return lt(num(widest(9, 0)), v("q")) }

func tooMany() api.Tree { return idle(api.MaxNodes + 1) }

// Just at MaxNodes all is well, one more is refused: nodes that lowering makes, and points and nodes of an elimination, of
// values put in, of looking for a witness.
func TestQ2Nodes(t *testing.T) {
	x, y := v("x"), v("y")
	const most = api.MaxNodes
	points := func(d, r int) api.Tree { return some(divides(small(d), add(x, num(small(r)))), "x") }
	for _, l := range []struct {
		what         string
		call         int
		fine, beyond api.Tree
		vals         []api.Int
		want         string
	}{
		// A quantifier that binds nothing is a node.
		{"lowering", decide, idle(most), idle(most + 1), nil, "true"}, {"lowering", eval, idle(most), idle(most + 1), nil, "true"}, {"lowering", eliminate, idle(most), idle(most + 1), nil, "true"}, {"lowering", cost, idle(most), idle(most + 1), nil, "2000"},
		{"lowering of one variable", solutions, some(divides(n(2), x), many(most-1, "y")...), some(divides(n(2), x), many(most, "y")...), nil, "by 2: 0"},
		// The divisors from 2 to 2000 are 1999 atoms, and there is an Or.
		{"an or", cost, or(divisors(2, most, x)...), or(divisors(2, most+1, x)...), nil, "2000"}, {"an or", eval, or(divisors(2, most, x)...), or(divisors(2, most+1, x)...), smalls(1), "false"},
		// An atom and a Some; it is true at the point 1998.
		{"elimination", decide, points(2500, 2500-1998), points(2500, 2500-1999), nil, "true"}, {"elimination", cost, points(2500, 2500-1998), points(2500, 2500-1999), nil, "2000"}, {"elimination", eliminate, points(2500, 2500-1998), points(2500, 2500-1999), nil, "true; v0 1 2500 low 0 1998"},
		// The first value makes as many as there are, the second one constants.
		{"values", eval, or(divisors(2, 1000, add(x, y))...), or(divisors(2, 1001, add(x, y))...), smalls(1, 0), "false"},
		// Each leading name is a node, and a point.
		{"many names", find, some(yes(), many(1000, "x")...), some(yes(), many(1001, "x")...), nil, tellNumbers(smalls(make([]int, 1000)...))},
		// To eliminate x there are points up to 1997 - 7, to find it from 0 down to -7.
		{"a witness", find, points(1997, 7), points(1998, 7), nil, "-7"}, {"a witness", find, points(1997, 1000), points(1998, 1000), nil, "-1000"},
	} {
		of(l.call, l.fine, l.vals...).wants(t, l.want)
		of(l.call, l.beyond, l.vals...).refuses(t, api.ErrNodes)
	}
	// What has no witness within the bound may be decided all the same.
	of(decide, points(1998, 7)).wants(t, "true")
	of(cost, points(1998, 7)).wants(t, "1993")
	// The node of a quantifier counts, also where what stands behind it is looked at alone.
	of(find, some(or(divisors(2, 1998, y)...), "x"), small(2)).wants(t, "0")
	of(find, some(or(divisors(2, 1999, y)...), "x"), small(2)).refuses(t, api.ErrNodes)
}

// Numbers of as many limbs as may be, and of one more: in lowering, of values, in elimination, of a witness.
func TestQ2Limbs(t *testing.T) {
	askAll(t, []row{
		{cost, "x < N8", "", "1"}, {cost, "x < N9", "", "E71"}, {cost, "x <= M8", "", "1"}, {cost, "x <= N8", "", "E71"}, {cost, "x = N8", "", "E71"}, {cost, "N8 divides x", "", "1"}, {cost, "N9 divides x", "", "E71"}, {cost, "N8 * x < y", "", "1"}, {cost, "N9 * x < y", "", "E71"},
		// What is long in the text may be short in the atom's form.
		{cost, "N9 * x < N9", "", "1"}, {cost, "N9 * x < N9 * y", "", "1"}, {cost, "N9 < N9 or x < N9 - N9", "", "1"}, {cost, "2 divides N9 * x + N9", "", "1"},
		{decide, "all x . N8 < x or x < N9", "", "E71"}, {decide, "some x . x < N8 and x > M8", "", "false"}, {decide, "some x . x > M8", "", "true"}, {decide, "all x . x < N8 or x >= N8", "", "true"}, {decide, "all x . x < N8 or x > M8", "", "true"},
		{eval, "x < y", "N8 1", "false"}, {eval, "x < y", "N9 1", "E71"}, {eval, "x < y", "1 N9", "true"}, {eval, "y < x", "-N9 1", "E71"}, {eval, "x + y = z", "N8 -N8 0", "E71"}, {eval, "x + y = z", "M8 -M8 0", "true"},
		// The coefficients' common multiple; the point behind a bound.
		{eliminate, "some x . N5 * x < y and z < M5 * x", "", "E71"}, {decide, "all y z . some x . N5 * x < y and z < M5 * x", "", "E71"}, {decide, "some x . N8 * x < y", "", "E210"}, {eliminate, "some x . N8 * x < y", "", "E70"}, {eliminate, "some x . x < y and z < N8 * x", "", "E70"},
		{eliminate, "some x . x > N8 and x < y", "", "E71"}, {eliminate, "some x . x > M8 and x < y", "", great("N8") + " < y; v1 1 1 low 1 2"},
		// A witness behind the greatest number, which goes into what is left.
		{find, "some z . z > N8", "", tellNumber(api.Int{Mag: []uint32{0, 0, 0, 0, 0, 0, 0, 0, 1}})}, {find, "some z x . z > N8 and x > z", "", "E71"}, {decide, "some z x . z > N8 and x > z", "", "true"}, {find, "some z x . z > M8 and x > z", "", great("N8") + " " + tellNumber(api.Int{Mag: []uint32{0, 0, 0, 0, 0, 0, 0, 0, 1}})},
		{find, "some x . x = y + 1", "N8", "E71"}, {find, "some x . x < y", "N9", "E71"}, {find, "some x . x < 1 or y < 1", "N9", "0"},
		{solutions, "x < N8", "", "by 1: 0; from " + great("N8") + ":"}, {solutions, "some y . x < y and y < N8", "", "by 1: 0; from " + great("M8") + ":"}, {solutions, "some y . x < y and y < N9", "", "E71"},
	})
}

// The first bound that is crossed is answered, whichever it is.
func TestQ2TheFirst(t *testing.T) {
	for _, l := range []struct {
		of   api.Tree
		want api.Errno
	}{
		{and(tooMany(), long()), api.ErrNodes}, {and(long(), tooMany()), api.ErrLimbs}, {or(tooMany(), long(), tooMany()), api.ErrNodes}, {iff(long(), tooMany()), api.ErrLimbs}, {implies(tooMany(), long()), api.ErrNodes}, {not(and(long(), tooMany())), api.ErrLimbs}, {all(long(), many(api.MaxNodes+1, "q")...), api.ErrLimbs},
		// One node that crosses both is ErrLimbs.
		{and(idle(api.MaxNodes), long()), api.ErrLimbs}, {and(idle(api.MaxNodes), below1("q")), api.ErrNodes},
		// In lowering ahead of all elimination.
		{and(some(divides(n(3000), v("y")), "y"), long()), api.ErrLimbs}, {and(some(divides(n(3000), v("y")), "y"), tooMany()), api.ErrNodes},
	} {
		closed := some(l.of, "q")
		if len(freeIn(l.of)) == 0 {
			closed = l.of
		}
		of(eliminate, l.of).refuses(t, l.want)
		of(cost, l.of).refuses(t, l.want)
		of(decide, closed).refuses(t, l.want)
		of(eval, l.of, smalls(make([]int, len(freeIn(l.of)))...)...).refuses(t, l.want)
		of(find, some(l.of, "q")).refuses(t, l.want)
		if len(freeIn(l.of)) == 1 {
			of(solutions, l.of).refuses(t, l.want)
		}
	}
	// In elimination: 2999 points, or a common multiple of 16 limbs.
	far, wide := "(some y . 3000 divides y + 1)", "(some y . N5 * y < a and b < M5 * y and c < y)"
	for text, want := range map[string]api.Errno{far + " and " + wide: api.ErrNodes, wide + " and " + far: api.ErrLimbs, far + " or " + far: api.ErrNodes, wide + " or not " + wide: api.ErrLimbs} {
		of(eliminate, read(t, text)).refuses(t, want)
		of(cost, read(t, text)).refuses(t, want)
	}
}

// Each question counts from nothing: what was asked ahead, however much of it, and refused or not, changes nothing; nor does
// how often.
func TestQ2FromNothing(t *testing.T) {
	rows := []asking{
		of(cost, idle(api.MaxNodes)), of(decide, idle(api.MaxNodes)), of(decide, tooMany()), of(cost, long()), of(eliminate, long()), of(eval, or(divisors(2, 1000, add(v("x"), v("y")))...), smalls(1, 0)...), of(find, some(yes(), many(1000, "x")...)), of(find, some(long(), "q")), of(solutions, some(divides(n(2), v("x")), many(api.MaxNodes-1, "y")...)),
		of(solutions, below1("x")), of(cost, below1("x")), of(decide, yes()), of(eval, below1("x")), of(find, yes()), of(eliminate, api.Tree{}), of(solutions, divides(n(5000), v("x"))),
	}
	var alone []string
	for _, q := range rows {
		alone = append(alone, q.ask().String())
	}
	d := &dice{state: 212}
	for range 200 {
		i := d.roll(len(rows))
		if got := rows[i].ask().String(); got != alone[i] {
			t.Fatalf("%s: %s, at first %s", rows[i], short(got), short(alone[i]))
		}
	}
}

// With as much ahead as leaves just enough a drawn sentence is decided, with one node more it is not: Cost counts no more and
// no less than there is.
func TestQ2DrawnCosts(t *testing.T) {
	d := &dice{state: 213}
	decided := 0
	for range drawn / 15 {
		u := d.formula(d.roll(4), 0, d.quantifier)
		if names := freeIn(u); len(names) > 0 {
			u = bind(api.TreeSome+d.roll(2), names, u)
		}
		padded := func(nodes int) api.Tree { return and(idle(nodes), u) }
		first := of(cost, padded(1)).ask()
		if first.e != api.OK {
			continue
		}
		decided++
		left := api.MaxNodes - first.count + 1
		of(cost, padded(left)).wants(t, "2000")
		of(decide, padded(left)).wants(t, of(decide, u).ask().String())
		of(cost, padded(left+1)).refuses(t, api.ErrNodes)
		of(decide, padded(left+1)).refuses(t, api.ErrNodes)
	}
	if decided < drawn/30 {
		t.Errorf("decided: %d", decided)
	}
}
