package witness_test

import (
	"slices"
	"testing"

	"riddle/api"
	"riddle/arena"
)

// An act is what a call does and the meter counts: a node that is made, or, without one, a point that is spent.
type act struct{ node form }

func points(many int) []act { return make([]act, many) }

func made(forms ...form) []act {
	var acts []act
	for _, f := range forms {
		acts = append(acts, act{f})
	}
	return acts
}

func acts(rows ...[]act) []act { return slices.Concat(rows...) }

// nodesOf are the forms of the nodes among acts.
func nodesOf(l []act) []form {
	var forms []form
	for _, one := range l {
		if one.node != nil {
			forms = append(forms, one.node)
		}
	}
	return forms
}

// A making is a formula with what Find is given beside it, what it is to answer, and what is to be done on the way, in that
// order. Without values to be answered it is false.
type making struct {
	of   form
	vars []int
	vals []api.Value
	want []api.Int
	acts []act
}

// yes is a list of no values beside a true.
func yes() []api.Int { return []api.Int{} }

// makes fails unless Find answers what it should and does just what it should, in its order, each counted once; unless it
// answers the same again, and only spends its points then; and unless with less in the meter it stops where the meter does,
// and what was done stays.
func (m making) makes(t *testing.T, row int) {
	t.Helper()
	a := arena.New(nil)
	q := findOf(m.of(a), m.vars, m.vals)
	was, spent, want := a.Len(), a.Meter().Spent(), answer{m.want, m.want != nil, api.OK}
	got := q.ask(a)
	total := a.Meter().Spent()
	m.areDone(t, row, a, was, len(m.acts))
	if got.String() != want.String() || total != spent+len(m.acts) {
		t.Fatalf("row %d: %s, want %s, %d acts, in\n%s", row, got, want, len(m.acts), tellArena(a))
	}
	nodes := tellNodes(a, a.Len())
	again := q.ask(a)
	if again.String() != want.String() || tellNodes(a, a.Len()) != nodes || a.Meter().Spent() != total+len(m.acts)-len(nodesOf(m.acts)) {
		t.Fatalf("row %d for the second time: %s, want %s, in\n%s", row, again, want, tellArena(a))
	}
	for left := max(0, 1-spent); left < len(m.acts); left++ {
		a := arena.New(meterOf(t, spent+left, 8))
		q := findOf(m.of(a), m.vars, m.vals)
		if got := q.ask(a); got.String() != q.nothing(api.ErrNodes).String() || a.Meter().Over() != api.ErrNodes || a.Meter().Spent() != spent+left {
			t.Fatalf("row %d with %d left: %s, in\n%s", row, left, got, tellArena(a))
		}
		m.areDone(t, row, a, was, left)
	}
	a = arena.New(meterOf(t, max(1, total), 8))
	if got := findOf(m.of(a), m.vars, m.vals).ask(a); got.String() != want.String() || a.Meter().Over() != api.OK {
		t.Fatalf("row %d with just enough: %s, in\n%s", row, got, tellArena(a))
	}
}

// areDone fails unless the nodes of an arena from a number on are those among the first acts.
func (m making) areDone(t *testing.T, row int, a *arena.Arena, from, many int) {
	t.Helper()
	nodes := nodesOf(m.acts[:many])
	if a.Len() != from+len(nodes) {
		t.Fatalf("row %d, %d acts: %d made, want %d, in\n%s", row, many, a.Len()-from, len(nodes), tellArena(a))
	}
	for i, f := range nodes {
		if id := f(a); id != from+i {
			t.Fatalf("row %d, %d acts: what should be made as number %d is %d, in\n%s", row, many, from+i, id, tellArena(a))
		}
	}
}

func makeAll(t *testing.T, rows []making) {
	t.Helper()
	for row, m := range rows {
		m.makes(t, row)
	}
}

// A giving is a making of which what is done on the way is told elsewhere.
type giving struct {
	of   form
	vars []int
	vals []api.Value
	want []api.Int
}

func giveAll(t *testing.T, rows []giving) {
	t.Helper()
	for row, g := range rows {
		a := arena.New(nil)
		q := findOf(g.of(a), g.vars, g.vals)
		want := answer{g.want, g.want != nil, api.OK}
		if got := q.ask(a); got.String() != want.String() {
			t.Errorf("row %d: %s: %s, want %s, in\n%s", row, q, got, want, short(tellArena(a)))
		}
	}
}

// higher says that v0 is above v1, and v1 above 0.
func higher() form { return and(xy(1, -1, 0), y(1, 0)) }

// gap says that v2 is above v1 and below v0; when v2 is gone, v0 is above v1 + 1.
func gap() form { return and(yz(-1, 1, 0), xz(1, -1, 0)) }

// The chapter's examples, with all that is made and spent for them.
func TestP202Examples(t *testing.T) {
	makeAll(t, []making{
		// Without v1: far below it is false, behind the bound 0 v0 is above 1; without v0: one point. Then 1, 2; then 0, 1.
		{higher(), vars(0, 1), nil, numbers(2, 1), acts(points(2), made(x(1, -1)), points(1), points(2), made(y(-1, 2), and(y(1, 0), y(-1, 2))), points(2))},
		{xy(1, -1, 0), vars(0), vals(val(1, 4)), numbers(5), acts(made(x(1, -4)), points(1), points(2))},
		{and(x(1, 0), x(-1, 0)), vars(0), nil, nil, nil},
	})
	a := arena.New(nil)
	findOf(xy(1, -1, 0)(a), vars(0), nil).refuses(t, a, api.ErrArity)
	findOf(x(1, 0)(a), vars(0, 0), nil).refuses(t, a, api.ErrArg)
}

// No vars: whether it is true under vals, and no values. Nothing is spent but by the elimination of quantifiers.
func TestP202NoVars(t *testing.T) {
	makeAll(t, []making{
		{always(), nil, nil, yes(), nil}, {never(), nil, nil, nil, nil}, {and(always(), never()), nil, nil, nil, nil}, {or(always(), never()), vars(), vals(), yes(), nil},
		{x(1, 0), nil, vals(val(0, 1)), yes(), nil}, {x(1, 0), nil, vals(val(0, 0)), nil, nil}, {xy(1, -1, 0), nil, vals(val(0, 3), val(1, 2)), yes(), made(y(-1, 3))}, {xy(1, -1, 0), nil, vals(val(1, 3), val(0, 2)), nil, made(x(1, -3))},
		{higher(), nil, vals(val(1, 3), val(0, 4)), yes(), made(x(1, -3))}, {higher(), nil, vals(val(1, 0), val(0, 4)), nil, made(x(1, 0))},
		{some(0, xy(1, -1, 0)), nil, vals(val(1, 5)), yes(), acts(made(x(1, -5), some(0, x(1, -5))), points(1))}, {all(0, x(1, 0)), nil, nil, nil, acts(made(x(-1, 1)), points(1))},
		{some(2, gap()), nil, vals(val(0, 9), val(1, 8)), nil, acts(made(z(-1, 9), and(yz(-1, 1, 0), z(-1, 9)), some(2, and(yz(-1, 1, 0), z(-1, 9))), z(1, -8), some(2, never())))},
	})
}

// One variable: the formula is joined anew, the variable eliminated, and One asked of what was joined.
func TestP202OneVariable(t *testing.T) {
	makeAll(t, []making{
		{x(1, -7), vars(0), nil, numbers(8), points(1 + 2)}, {x(-1, -7), vars(0), nil, numbers(-8), points(1 + 1)}, {divides(3, 1), vars(0), nil, numbers(-1), points(2 + 2)},
		{always(), vars(0), nil, numbers(0), points(1)}, {never(), vars(0), nil, nil, nil}, {and(above(2), upTo(4)), vars(0), nil, numbers(3), points(2 + 2)},
		// It is false only when the variable was eliminated: four points, and nobody asks for a value.
		{and(divides(2, 0), divides(4, 1)), vars(0), nil, nil, points(4)}, {and(above(0), divides(3, 0), upTo(2)), vars(0), nil, nil, points(1 + 3)},
		// What is joined anew has fewer marks than what was handed in.
		{and(above(2), above(5), upTo(9)), vars(0), nil, numbers(6), acts(made(and(above(5), upTo(9))), points(2+2))}, {and(above(2), and(above(5), upTo(9))), vars(0), nil, numbers(6), points(2 + 2)}, {and(above(2), above(5)), vars(0), nil, numbers(6), points(1 + 2)}, {or(x(1, 0), x(-1, 1)), vars(0), nil, numbers(0), points(1)},
		{and(always(), above(5)), vars(0), nil, numbers(6), points(1 + 2)},
		// A coefficient of 2: the points of the elimination are others than those of One.
		{and(xy(2, -1, 0), xy(-2, 1, 4)), vars(0), vals(val(1, 5)), numbers(3), acts(made(x(1, -2), x(-1, 5), and(x(1, -2), x(-1, 5))), points(2+2))},
	})
}

// Several variables: the last one is eliminated first, the first one's value is found first.
func TestP202SeveralVariables(t *testing.T) {
	ray := and(x(1, 0), y(1, 0), z(1, 0))
	three := and(xy(1, -1, 0), yz(1, -1, 0), z(1, 0))
	makeAll(t, []making{
		{higher(), vars(1, 0), nil, numbers(1, 2), acts(points(1), points(1), points(2), made(x(1, -1)), points(2))},
		{ray, vars(0, 1, 2), nil, numbers(1, 1, 1), acts(points(1), made(and(x(1, 0), y(1, 0))), points(1), points(1), points(2), points(2), made(and(y(1, 0), z(1, 0))), points(2))},
		{ray, vars(2, 0, 1), nil, numbers(1, 1, 1), acts(points(1), made(and(x(1, 0), z(1, 0))), points(1), points(1), points(2), points(2), made(and(x(1, 0), y(1, 0))), points(2))},
		// v2 is 1, v1 is 2, v0 is 3, from whichever end.
		{three, vars(2, 1, 0), nil, numbers(1, 2, 3), acts(
			points(1), made(and(yz(1, -1, 0), z(1, 0))), points(1), points(1),
			points(2), made(y(1, -1)), points(2), made(and(xy(1, -1, 0), y(1, -1)), x(1, -2)), points(2))},
		{three, vars(0, 1, 2), nil, numbers(3, 2, 1), acts(
			// Of the And of what has v2: behind the bound 0 v1 is above 1.
			made(and(yz(1, -1, 0), z(1, 0))), points(2), made(y(1, -1), and(xy(1, -1, 0), y(1, -1))),
			points(2), made(x(1, -2)), points(1),
			points(2), made(y(-1, 3), and(y(1, -1), y(-1, 3))), points(2),
			made(and(yz(1, -1, 0), z(1, 0), y(-1, 3)), z(-1, 2), and(z(1, 0), z(-1, 2))), points(2))},
	})
}

// Values of the others are put in first, in their order, but for those of variables that are looked for.
func TestP202Values(t *testing.T) {
	sum := less(0, p(0, 1), p(1, -1), p(2, -1))
	makeAll(t, []making{
		{sum, vars(0), vals(val(1, 3), val(2, 4)), numbers(8), acts(made(xz(1, -1, -3), x(1, -7)), points(1+2))}, {sum, vars(0), vals(val(2, 4), val(1, 3)), numbers(8), acts(made(xy(1, -1, -4), x(1, -7)), points(1+2))},
		// Of several values of one variable the first one counts; those of variables that are not free don't matter.
		{sum, vars(0), vals(val(1, 3), val(1, 5), val(2, 4), val(1, 9), val(2, 0)), numbers(8), acts(made(xz(1, -1, -3), x(1, -7)), points(1+2))},
		{sum, vars(0), vals(val(7, 3), val(2, 4), val(-7, 5), val(most, 1), val(1, 3), val(least, 2)), numbers(8), acts(made(xy(1, -1, -4), x(1, -7)), points(1+2))},
		{x(1, 0), vars(0), vals(val(1, 3), val(1, 4)), numbers(1), points(1 + 2)}, {always(), vars(0), vals(val(1, 3)), numbers(0), points(1)},
		// Those of variables that are looked for are none, wherever they stand.
		{x(1, -7), vars(0), vals(val(0, 3)), numbers(8), points(1 + 2)}, {x(1, -7), vars(0), vals(val(0, 30), val(0, 9)), numbers(8), points(1 + 2)}, {higher(), vars(1, 0), vals(val(0, -3), val(1, 7), val(0, 9)), numbers(1, 2), acts(points(1), points(1), points(2), made(x(1, -1)), points(2))},
		{sum, vars(0), vals(val(0, 1), val(1, 3), val(0, 2), val(2, 4), val(0, 3)), numbers(8), acts(made(xz(1, -1, -3), x(1, -7)), points(1+2))}, {sum, vars(2, 0), vals(val(0, 1), val(1, 3), val(0, 2), val(2, 4), val(0, 3)), numbers(0, 4), acts(
			made(xz(1, -1, -3)), points(1), points(1), made(x(1, -3)), points(2))},
		// They may leave nothing: then it is the same for all values of the variable.
		{and(sum, y(1, 0)), vars(0), vals(val(1, 0), val(2, 5)), nil, made(xz(1, -1, 0))}, {or(xy(1, 1, 0), y(1, 0)), vars(0), vals(val(1, 4)), numbers(0), acts(made(x(1, 4)), points(1))},
	})
}

// Variables that are looked for, but not free: each has a value, by one point, ahead of the others and behind them; also one
// that a quantifier binds.
func TestP202NotFree(t *testing.T) {
	makeAll(t, []making{
		{x(1, -7), vars(0, 5), nil, numbers(8, 0), points(1 + 2 + 1)}, {x(1, -7), vars(5, 0), nil, numbers(0, 8), points(1 + 1 + 2)}, {x(1, -7), vars(most, 0, least, 9), nil, numbers(0, 8, 0, 0), points(1 + 1 + 2 + 1 + 1)},
		{always(), vars(3, 1, 2), nil, numbers(0, 0, 0), points(3)}, {never(), vars(3, 1, 2), nil, nil, nil}, {xy(1, -1, 0), vars(9, 0), vals(val(1, 4), val(9, 5)), numbers(0, 5), acts(made(x(1, -4)), points(1+1+2))},
		{some(0, xy(1, -1, 0)), vars(0, 1), nil, numbers(0, 0), acts(points(1), points(2))}, {and(x(1, -7), some(1, y(1, 0))), vars(1, 0), nil, numbers(0, 8), acts(points(1), points(1), points(1+2))},
		// It was free, but is gone when the formula is joined anew, or when another one is eliminated.
		{or(x(1, 0), x(-1, 1), y(1, 0)), vars(1, 0), nil, numbers(0, 0), points(2)}, {and(or(x(1, 0), y(1, 0)), x(1, 0)), vars(0, 1), nil, numbers(1, 0), points(1 + 2 + 1)}, {xy(1, 1, 0), vars(0, 1), nil, numbers(0, 1), acts(points(1), points(1), made(y(1, 0)), points(2))},
	})
}

// Formulas with quantifiers: these are eliminated ahead of the variables, of what came of the values.
func TestP202Quantifiers(t *testing.T) {
	makeAll(t, []making{
		// v0 is above v1 + 1.
		{some(2, gap()), vars(0), vals(val(1, 4)), numbers(6), acts(made(z(1, -4), and(xz(1, -1, 0), z(1, -4)), some(2, and(xz(1, -1, 0), z(1, -4)))), points(2), made(x(1, -5)), points(1), points(2))},
		{some(2, gap()), vars(1, 0), nil, numbers(0, 2), acts(points(2), made(xy(1, -1, -1)), points(1), points(1), made(x(1, -1)), points(2))},
		{all(1, some(0, xy(1, -1, 0))), vars(), nil, yes(), points(1)}, {all(0, or(xy(1, 1, 0), x(-1, 1))), vars(1), nil, numbers(0), acts(made(xy(-1, -1, 1), x(1, 0), and(x(1, 0), xy(-1, -1, 1))), points(2), made(y(-1, 0), y(1, 1)), points(1), points(2))},
	})
	half := func(v, w int) form { return equal(0, p(v, 1), p(w, -2)) }
	giveAll(t, []giving{
		{some(1, half(0, 1)), vars(0), nil, numbers(0)}, {and(above(4), some(1, half(0, 1))), vars(0), nil, numbers(6)}, {and(above(4), all(1, or(xy(1, -2, 0), xy(-1, 2, 0)))), vars(0), nil, numbers(5)}, {and(above(4), upTo(5), some(1, half(0, 1))), vars(0), nil, nil},
		// The same variable, bound and looked for.
		{and(above(4), some(0, half(0, 1))), vars(0, 1), nil, numbers(5, 0)}, {and(above(4), some(0, half(1, 0)), y(1, 0)), vars(1, 0), nil, numbers(2, 5)}, {and(above(4), some(0, half(1, 0)), y(1, 0)), vars(0), vals(val(1, 3)), nil}, {and(above(4), some(0, half(1, 0)), y(1, 0)), vars(0), vals(val(1, 4)), numbers(5)},
	})
}

// Sums, remainders and bounds together.
func TestP202Together(t *testing.T) {
	giveAll(t, []giving{
		// 3 x + 5 y is 1; with x above 0 it is 3 x that leaves 1 by 5: x is 2.
		{and(equal(-1, p(0, 3), p(1, 5)), x(1, 0)), vars(0, 1), nil, numbers(2, -1)}, {and(equal(-1, p(0, 3), p(1, 5)), x(1, 0)), vars(1, 0), nil, numbers(-1, 2)}, {and(equal(-1, p(0, 3), p(1, 5)), x(1, 0), y(1, 0)), vars(0, 1), nil, nil}, {equal(-1, p(0, 6), p(1, 4)), vars(0, 1), nil, nil},
		{and(equal(-23, p(0, 3), p(1, 5)), x(1, 0), y(1, 0)), vars(0, 1), nil, numbers(1, 4)}, {and(equal(-23, p(0, 3), p(1, 5)), x(1, 0), y(1, 0)), vars(1, 0), nil, numbers(1, 6)},
		{and(equal(0, p(0, 3), p(1, 5), p(2, -1)), x(1, 0), y(1, 0)), vars(0, 1), vals(val(2, 23)), numbers(1, 4)}, {and(equal(0, p(0, 3), p(1, 5), p(2, -1)), x(1, 0), y(1, 0)), vars(0, 1), vals(val(2, 7)), nil}, {and(equal(0, p(0, 3), p(1, 5), p(2, -1)), x(1, 0), y(1, 0)), vars(1, 0), vals(val(2, 23)), numbers(1, 6)},
		{and(divides(3, 1), divides(5, 2), divides(7, 3), above(0)), vars(0), nil, numbers(53)},
	})
}

// Answers of many limbs: a value may have more limbs than a node's number may; but not where it is put into another one.
func TestP202GreatNumbers(t *testing.T) {
	for l := 1; l < api.MaxLimbs; l++ {
		k, next := opposite(widest(l, 0)), wide(l+1, 0)
		giveAll(t, []giving{
			{bigLess(k, p(0, 1)), vars(0), nil, bigs(next)}, {bigLess(k, p(0, -1)), vars(0), nil, bigs(opposite(next))}, {and(bigLess(k, p(0, 1)), xy(-1, 1, 0)), vars(0, 1), nil, bigs(next, wide(l+1, 1))},
			{xy(1, -1, 0), vars(0), vals(bigVal(1, widest(l, 0))), bigs(next)}, {and(xy(1, -1, 0), divides(3, 1)), vars(0), vals(bigVal(1, widest(l, 0))), bigs(wide(l+1, 1))},
			{and(xy(1, -1, 0), xy(-1, 1, 2)), vars(1, 0), vals(bigVal(0, k)), numbers(0, 1)}, {and(bigLess(k, p(1, 1)), xy(1, -1, 0), yz(-1, 1, 0)), vars(1, 0, 2), nil, bigs(next, wide(l+1, 1), wide(l+1, 1))},
		})
	}
	k := opposite(widest(8, 0))
	giveAll(t, []giving{
		{bigLess(k, p(0, 1)), vars(0), nil, bigs(wide(9, 0))}, {bigLess(k, p(0, -1)), vars(0), nil, bigs(opposite(wide(9, 0)))}, {and(bigLess(k, p(0, 1)), y(1, 0)), vars(0, 1), nil, bigs(wide(9, 0), n(1))}, {and(bigLess(k, p(0, 1)), y(1, 0)), vars(1, 0), nil, bigs(n(1), wide(9, 0))},
		{x(1, 0), nil, vals(bigVal(0, wide(40, 0))), yes()}, {x(1, 0), nil, vals(bigVal(0, opposite(wide(40, 0)))), nil}, {x(1, 0), vars(0), vals(bigVal(0, wide(40, 0)), bigVal(1, widest(50, 0))), numbers(1)},
	})
	// v1 would have to be above a number of 9 limbs: that is no number of a node.
	a := arena.New(nil)
	q := findOf(and(bigLess(k, p(0, 1)), xy(-1, 1, 0))(a), vars(0, 1), nil)
	was := a.Len()
	if got := q.ask(a); got.String() != q.nothing(api.ErrLimbs).String() || a.Meter().Over() != api.ErrLimbs || a.Len() != was {
		t.Errorf("%s, in\n%s", got, tellArena(a))
	}
}
