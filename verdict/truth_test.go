package verdict_test

import (
	"slices"

	"riddle/api"
	"riddle/zint"
)

// values are those of names; a name without one counts as 0.
type values map[string]int

// with is the same, but for one name.
func (v values) with(name string, value int) values {
	changed := values{name: value}
	for other, value := range v {
		if other != name {
			changed[other] = value
		}
	}
	return changed
}

// list are the values of names, in order.
func (v values) list(names []string) []api.Int {
	var l []api.Int
	for _, name := range names {
		l = append(l, small(v[name]))
	}
	return l
}

// worth is a term's value; the numbers of drawn formulas are small.
func (v values) worth(t api.Tree) int {
	kid := func(i int) int { return v.worth(t.Kids[i]) }
	switch t.Kind {
	case api.TreeNum:
		return toInt(t.N)
	case api.TreeVar:
		return v[t.Name]
	case api.TreeNeg:
		return -kid(0)
	case api.TreeAdd:
		return kid(0) + kid(1)
	case api.TreeSub:
		return kid(0) - kid(1)
	}
	return toInt(t.N) * kid(0)
}

func toInt(a api.Int) int {
	k, is := zint.Int64(a)
	if !is {
		panic("a great number: " + tellLimbs(a))
	}
	return int(k)
}

// holds tells whether a formula is true under values: a comparison by what it says, a quantifier by its values one by one.
func holds(t api.Tree, v values) bool {
	kid := func(i int) bool { return holds(t.Kids[i], v) }
	isSo := func(kid api.Tree) bool { return holds(kid, v) }
	isNot := func(kid api.Tree) bool { return !holds(kid, v) }
	switch t.Kind {
	case api.TreeTrue, api.TreeFalse:
		return t.Kind == api.TreeTrue
	case api.TreeNot:
		return !kid(0)
	case api.TreeAnd:
		return !slices.ContainsFunc(t.Kids, isNot)
	case api.TreeOr:
		return slices.ContainsFunc(t.Kids, isSo)
	case api.TreeImplies:
		return !kid(0) || kid(1)
	case api.TreeIff:
		return kid(0) == kid(1)
	case api.TreeSome:
		return within(t.Names, t.Kids[0].Kids, v, func(v values) bool { return holds(t.Kids[0], v) })
	case api.TreeAll:
		return !within(t.Names, t.Kids[0].Kids[0].Kids, v, func(v values) bool { return !holds(t.Kids[0], v) })
	case api.TreeDivides:
		return v.worth(t.Kids[0])%toInt(t.N) == 0
	}
	return compared(t.Kind, v.worth(t.Kids[0])-v.worth(t.Kids[1]))
}

func compared(kind, gap int) bool {
	switch kind {
	case api.TreeLt:
		return gap < 0
	case api.TreeLe:
		return gap <= 0
	case api.TreeEq:
		return gap == 0
	case api.TreeNe:
		return gap != 0
	case api.TreeGe:
		return gap >= 0
	}
	return gap > 0
}

// within calls for all values that names have in their spans, of which there are two sides for each, till one call answers true.
func within(names []string, spans []api.Tree, v values, is func(v values) bool) bool {
	if len(names) == 0 {
		return is(v)
	}
	for k := v.worth(spans[0].Kids[0]) + 1; k < v.worth(spans[1].Kids[1]); k++ {
		if within(names[1:], spans[2:], v.with(names[0], k), is) {
			return true
		}
	}
	return false
}

// spans say of each name that it is above a number, or above a name that is none of them, and not far above it.
func (d *dice) spans(names []string) []api.Tree {
	var l []api.Tree
	for _, name := range names {
		low := written(small(d.roll(9) - 4))
		if other := d.name(); !slices.Contains(names, other) && d.roll(2) == 0 {
			low = v(other)
		}
		l = append(l, lt(low, v(name)), lt(v(name), add(low, num(small(1+d.roll(6))))))
	}
	return l
}

// bound puts a quantifier above a formula, all of whose values by which it can be told are in the spans.
func (d *dice) bound(f api.Tree) api.Tree {
	names := d.names()
	if len(names) > 2 {
		names = names[:2]
	}
	return d.spanned(api.TreeSome+d.roll(2), names, f)
}

func (d *dice) spanned(kind int, names []string, f api.Tree) api.Tree {
	spans := d.spans(names)
	if kind == api.TreeAll {
		return all(implies(and(spans...), f), names...)
	}
	return some(and(append(spans, f)...), names...)
}

// grid calls for all values of names from -far to far, till one call answers true.
func grid(names []string, far int, v values, is func(v values) bool) bool {
	if len(names) == 0 {
		return is(v)
	}
	for k := -far; k <= far; k++ {
		if grid(names[1:], far, v.with(names[0], k), is) {
			return true
		}
	}
	return false
}

// put is a tree with values written into the places where their names are free.
func put(t api.Tree, vals map[string]api.Int) api.Tree {
	if k, is := vals[t.Name]; is && t.Kind == api.TreeVar {
		return written(k)
	}
	inner := map[string]api.Int{}
	for name, k := range vals {
		if !slices.Contains(t.Names, name) {
			inner[name] = k
		}
	}
	kids := slices.Clone(t.Kids)
	for i := range kids {
		kids[i] = put(kids[i], inner)
	}
	t.Kids = kids
	return t
}
