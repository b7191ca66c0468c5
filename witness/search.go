package witness

import (
	"slices"

	"riddle/api"
	"riddle/arena"
	"riddle/drive"
	"riddle/subst"
)

// A search is for values of some variables.
type search struct {
	// vars stand in the order that was asked for, sorted in a rising one.
	vars, sorted []int
}

func searchFor(vars []int) search {
	return search{vars, rising(vars)}
}

// rising is a new list of the same numbers.
func rising(l []int) []int {
	l = slices.Clone(l)
	slices.Sort(l)
	return l
}

// refused is the error of an arena, a node, or of variables of which too much is told, or too little.
func (s search) refused(a *arena.Arena, id int, vals []api.Value) api.Errno {
	if e := missing(a, id); e != api.OK {
		return e
	}
	for i := 1; i < len(s.sorted); i++ {
		if s.sorted[i] == s.sorted[i-1] {
			return api.ErrArg
		}
	}
	known := slices.Clone(s.vars)
	for _, value := range vals {
		known = append(known, value.Var)
	}
	known = rising(known)
	if slices.ContainsFunc(a.Free(id), func(v int) bool { return !isAmong(known, v) }) {
		return api.ErrArity
	}
	return api.OK
}

// isAmong tells whether a number stands in a rising list.
func isAmong(l []int, v int) bool {
	_, is := slices.BinarySearch(l, v)
	return is
}

// others are the values of variables that are not looked for.
func (s search) others(vals []api.Value) []api.Value {
	var others []api.Value
	for _, value := range vals {
		if !isAmong(s.sorted, value.Var) {
			others = append(others, value)
		}
	}
	return others
}

// eliminated are what comes of a plain formula, by how many of the variables are left: the last one is the formula itself,
// in the first one none is free.
func (s search) eliminated(a *arena.Arena, id int) ([]int, api.Errno) {
	ids := make([]int, len(s.vars)+1)
	ids[len(s.vars)] = id
	free := a.Free(id)
	for i, v := range slices.Backward(s.vars) {
		// There may be many more variables than free ones: the formula is gone through for these alone.
		if isAmong(free, v) {
			came, _, e := drive.Some(a, id, v)
			if e != api.OK {
				return nil, e
			}
			id, free = came, a.Free(came)
		}
		ids[i] = id
	}
	return ids, api.OK
}

// found are the values, from the first one on. Where the formula without a variable is true there is a value of it, so that
// none is missed on the way.
func (s search) found(a *arena.Arena, ids []int) ([]api.Int, api.Errno) {
	var found []api.Int
	var ahead []api.Value
	for i, v := range s.vars {
		id, e := subst.Instance(a, ids[i+1], ahead)
		if e != api.OK {
			return nil, e
		}
		value, _, e := One(a, id, v)
		if e != api.OK {
			return nil, e
		}
		found, ahead = append(found, value), append(ahead, api.Value{Var: v, N: value})
	}
	return found, api.OK
}
