package verdict

import (
	"riddle/api"
	"riddle/arena"
	"riddle/drive"
	"riddle/lower"
	"riddle/meter"
	"riddle/periods"
	"riddle/raise"
	"riddle/subst"
	"riddle/witness"
)

// always is the number of the constant's node that is true.
const always = 1

// A run is one question's own: what it makes and spends is counted from nothing. From its first error on it is refused.
type run struct {
	arena *arena.Arena
	// id is the formula, as far as the run has come with it.
	id int
}

// begun is a run in which a formula is lowered.
func begun(t api.Tree) *run {
	m, e := meter.New(api.MaxNodes, api.MaxLimbs)
	refuse(e)
	r := &run{arena: arena.New(m)}
	r.goOn(lower.From(r.arena, t))
	return r
}

// goOn takes what came of the formula.
func (r *run) goOn(id int, e api.Errno) {
	refuse(e)
	r.id = id
}

// put puts values into the places of variables.
func (r *run) put(vals []api.Value) {
	r.goOn(subst.Instance(r.arena, r.id, vals))
}

// eliminate takes all quantifiers away, and tells how they went.
func (r *run) eliminate() []api.Step {
	id, steps, e := drive.Run(r.arena, r.id)
	r.goOn(id, e)
	return steps
}

// isTrue tells whether a formula without free variables is true.
func (r *run) isTrue() bool {
	r.eliminate()
	return r.id == always
}

// enter goes behind so many quantifiers, and tells their variables. Each leading name of the text has a quantifier, whatever
// stands behind it.
func (r *run) enter(quantifiers int) []int {
	var vars []int
	for range quantifiers {
		node, _ := r.arena.Node(r.id)
		vars = append(vars, node.Var)
		r.id = node.Kids[0]
	}
	return vars
}

// found are values of variables under which the formula is true, where others have values already.
func (r *run) found(vars []int, vals []api.Value) []api.Int {
	l, is, e := witness.Find(r.arena, r.id, vars, vals)
	refuse(e)
	refuseIf(!is, api.ErrNone)
	return l
}

// raised is the tree of a formula whose variables have these names.
func (r *run) raised(names []string) api.Tree {
	t, e := raise.To(r.arena, r.id, names)
	refuse(e)
	return t
}

// solutions are the values of the only variable that there may be.
func (r *run) solutions() *periods.Set {
	s, e := periods.Of(r.arena, r.id, 0)
	refuse(e)
	return s
}

func (r *run) spent() int {
	return r.arena.Meter().Spent()
}
