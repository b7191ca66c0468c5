package witness

import (
	"iter"
	"slices"

	"riddle/api"
	"riddle/arena"
	"riddle/term"
	"riddle/zint"
)

// points are the numbers that are to be looked at, one behind the other: if the formula holds anywhere, it holds at one of
// them. Up to the least mark what it says comes again with each period; above that it begins to hold only behind a low mark,
// by no more than a period.
func points(a *arena.Arena, id, v int) iter.Seq[api.Int] {
	return func(yield func(point api.Int) bool) {
		o := outlineOf(a, id, v)
		up, down := zint.Of(1), zint.Of(-1)
		for point := range row(o.least(), down, o.period) {
			if !yield(point) {
				return
			}
		}
		for _, mark := range o.low {
			for point := range row(zint.Add(mark, up), up, o.period) {
				if !yield(point) {
					return
				}
			}
		}
	}
}

// row are so many numbers, from the first one on, each by a step behind the one ahead. There may be many more than are ever
// come to.
func row(first, step, many api.Int) iter.Seq[api.Int] {
	return func(yield func(x api.Int) bool) {
		one := zint.Of(1)
		x := first
		for j := one; zint.Cmp(j, many) <= 0; j = zint.Add(j, one) {
			if !yield(x) {
				return
			}
			x = zint.Add(x, step)
		}
	}
}

// An outline is where a formula of one variable can change.
type outline struct {
	// marks are the numbers above which a Less begins to hold, or ends; low are those of the first kind, rising.
	marks, low []api.Int
	// period is after how many numbers all divisibilities come again.
	period api.Int
}

func outlineOf(a *arena.Arena, id, v int) outline {
	o := outline{period: zint.Of(1)}
	for _, reached := range a.Reach(id) {
		node, _ := a.Node(reached)
		if c := term.Coef(node.T, v); zint.Sign(c) != 0 {
			o.add(node, c)
		}
	}
	slices.SortFunc(o.low, zint.Cmp)
	o.low = slices.CompactFunc(o.low, func(x, y api.Int) bool { return zint.Cmp(x, y) == 0 })
	return o
}

// add takes an atom with the variable's coefficient in.
func (o *outline) add(n api.Node, c api.Int) {
	if n.Kind != api.Less {
		again, _, _ := zint.DivMod(n.D, zint.Gcd(n.D, c))
		o.period = zint.Lcm(o.period, again)
		return
	}
	if zint.Sign(c) > 0 {
		mark, _, _ := zint.DivMod(zint.Neg(n.T.K), c)
		o.marks, o.low = append(o.marks, mark), append(o.low, mark)
		return
	}
	mark, _, _ := zint.DivMod(zint.Sub(n.T.K, zint.Of(1)), zint.Neg(c))
	o.marks = append(o.marks, mark)
}

// least is the least mark; 0, if there are none.
func (o *outline) least() api.Int {
	if len(o.marks) == 0 {
		return zint.Of(0)
	}
	return slices.MinFunc(o.marks, zint.Cmp)
}
