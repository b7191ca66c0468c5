package language

import (
	"iter"

	"riddle/api"
	"riddle/arena"
	"riddle/atom"
	"riddle/census"
	"riddle/crew"
	"riddle/drive"
	"riddle/elim"
	"riddle/ground"
	"riddle/lex"
	"riddle/limit"
	"riddle/lower"
	"riddle/meter"
	"riddle/nat"
	"riddle/periods"
	"riddle/raise"
	"riddle/session"
	"riddle/simp"
	"riddle/store"
	"riddle/subst"
	"riddle/syntax"
	"riddle/term"
	"riddle/unit"
	"riddle/verdict"
	"riddle/witness"
	"riddle/zint"
)

// The calls that the chapters list, as they list them: what is missing or has another form is not built.

// Layer 1.
var (
	_ func(n uint64) []uint32                             = nat.Of
	_ func(a, b []uint32) int                             = nat.Cmp
	_ func(a, b []uint32) []uint32                        = nat.Add
	_ func(a, b []uint32) ([]uint32, api.Errno)           = nat.Sub
	_ func(a, b []uint32) []uint32                        = nat.Mul
	_ func(a, b []uint32) ([]uint32, []uint32, api.Errno) = nat.DivMod
	_ func(a, b []uint32) []uint32                        = nat.Gcd
	_ func(a, b []uint32) []uint32                        = nat.Lcm
	_ func(a []uint32) int                                = nat.Bits
	_ func(a []uint32) string                             = nat.Text
	_ func(s string) ([]uint32, api.Errno)                = nat.Parse
)

// Layer 2.
var (
	_ func(n int64) api.Int                          = zint.Of
	_ func(a api.Int) api.Int                        = zint.Norm
	_ func(a api.Int) bool                           = zint.Valid
	_ func(a api.Int) (int64, bool)                  = zint.Int64
	_ func(a api.Int) int                            = zint.Sign
	_ func(a, b api.Int) int                         = zint.Cmp
	_ func(a api.Int) api.Int                        = zint.Neg
	_ func(a api.Int) api.Int                        = zint.Abs
	_ func(a, b api.Int) api.Int                     = zint.Add
	_ func(a, b api.Int) api.Int                     = zint.Sub
	_ func(a, b api.Int) api.Int                     = zint.Mul
	_ func(a, b api.Int) (q, r api.Int, e api.Errno) = zint.DivMod
	_ func(l ...api.Int) api.Int                     = zint.Gcd
	_ func(l ...api.Int) api.Int                     = zint.Lcm
	_ func(a api.Int) int                            = zint.Limbs
	_ func(a api.Int) string                         = zint.Text
	_ func(s string) (api.Int, api.Errno)            = zint.Parse
)

// Layer 3.
var (
	_ func(text string) ([]lex.Token, api.Mishap) = lex.Tokens
	_ func(text string) iter.Seq[lex.Token]       = lex.Words
	_ func(s string) bool                         = lex.IsName
)

// Layer 4.
var (
	_ func(t api.Tree) api.Errno               = syntax.Check
	_ func(text string) (api.Tree, api.Mishap) = syntax.Parse
	_ func(t api.Tree) (string, api.Errno)     = syntax.Print
	_ func(a, b api.Tree) bool                 = syntax.Same
	_ func(t api.Tree) api.Tree                = syntax.Copy
	_ func(t api.Tree) []string                = syntax.Free
	_ func(t api.Tree) int                     = syntax.Size
)

// Layer 5.
var (
	_ func(t api.Term) bool                                   = term.Valid
	_ func(t api.Term) api.Term                               = term.Norm
	_ func(k api.Int) api.Term                                = term.Const
	_ func(v int) api.Term                                    = term.Var
	_ func(a, b api.Term) api.Term                            = term.Add
	_ func(a, b api.Term) api.Term                            = term.Sub
	_ func(k api.Int, t api.Term) api.Term                    = term.Scale
	_ func(t api.Term, v int) api.Int                         = term.Coef
	_ func(t api.Term, v int) api.Term                        = term.Without
	_ func(t api.Term, v int, u api.Term) api.Term            = term.Put
	_ func(t api.Term) []int                                  = term.Vars
	_ func(a, b api.Term) int                                 = term.Order
	_ func(t api.Term, vals []api.Value) (api.Int, api.Errno) = term.Eval
	_ func(t api.Term) int                                    = term.Limbs
)

// Layer 6.
var (
	_ func(a api.Atom) bool                                = atom.Valid
	_ func(t api.Term) api.Atom                            = atom.Less
	_ func(d api.Int, t api.Term) (api.Atom, api.Errno)    = atom.Div
	_ func(d api.Int, t api.Term) (api.Atom, api.Errno)    = atom.Not
	_ func(a api.Atom) (api.Atom, api.Errno)               = atom.Norm
	_ func(a api.Atom) api.Atom                            = atom.Negate
	_ func(a api.Atom, v int, u api.Term) api.Atom         = atom.Put
	_ func(a, b api.Atom) int                              = atom.Order
	_ func(a api.Atom, vals []api.Value) (bool, api.Errno) = atom.Holds
	_ func(a api.Atom) string                              = atom.Text
)

// Layer 7.
var (
	_ func(nodes, limbs int) (*meter.Meter, api.Errno) = meter.New
	_ func(m *meter.Meter, l ...api.Int) api.Errno     = (*meter.Meter).Node
	_ func(m *meter.Meter, n int) api.Errno            = (*meter.Meter).Spend
	_ func(m *meter.Meter) int                         = (*meter.Meter).Spent
	_ func(m *meter.Meter) api.Errno                   = (*meter.Meter).Over
)

// Layer 8.
var (
	_ func(m *meter.Meter) *arena.Arena                            = arena.New
	_ func(a *arena.Arena, x api.Atom) (int, api.Errno)            = (*arena.Arena).Atom
	_ func(a *arena.Arena, kind int, kids ...int) (int, api.Errno) = (*arena.Arena).Join
	_ func(a *arena.Arena, kind, v, kid int) (int, api.Errno)      = (*arena.Arena).Bind
	_ func(a *arena.Arena, id int) (api.Node, bool)                = (*arena.Arena).Node
	_ func(a *arena.Arena) int                                     = (*arena.Arena).Len
	_ func(a *arena.Arena) *meter.Meter                            = (*arena.Arena).Meter
	_ func(a *arena.Arena, id int) []int                           = (*arena.Arena).Free
	_ func(a *arena.Arena, id int) []int                           = (*arena.Arena).Reach
	_ func(a *arena.Arena, id int) bool                            = (*arena.Arena).Plain
	_ func(a *arena.Arena, n int) api.Errno                        = (*arena.Arena).Release
)

// Layer 9.
var (
	_ func(a *arena.Arena, ids ...int) (int, api.Errno) = simp.And
	_ func(a *arena.Arena, ids ...int) (int, api.Errno) = simp.Or
	_ func(a *arena.Arena, id int) (int, api.Errno)     = simp.Negate
	_ func(a *arena.Arena, id int) (int, api.Errno)     = simp.Again
)

// Layer 10.
var (
	_ func(t api.Tree) []string                              = lower.Names
	_ func(a *arena.Arena, t api.Tree) (int, api.Errno)      = lower.From
	_ func(t api.Tree, names []string) (api.Term, api.Errno) = lower.Term
)

// Layer 11.
var (
	_ func(a *arena.Arena, id int, names []string) (api.Tree, api.Errno) = raise.To
	_ func(x api.Atom, names []string) (api.Tree, api.Errno)             = raise.Atom
	_ func(t api.Term, names []string) (api.Tree, api.Errno)             = raise.Term
)

// Layer 12.
var (
	_ func(a *arena.Arena, id, v int, t api.Term) (int, api.Errno)             = subst.Put
	_ func(a *arena.Arena, id int, vals []api.Value) (int, api.Errno)          = subst.Instance
	_ func(a *arena.Arena, id int, f func(api.Atom) api.Atom) (int, api.Errno) = subst.Map
)

// Layer 13.
var (
	_ func(a *arena.Arena, id, v int) (api.Int, api.Errno)      = unit.Lcm
	_ func(a *arena.Arena, id, v int) (int, api.Int, api.Errno) = unit.Unit
)

// Layer 14.
var (
	_ func(a *arena.Arena, id, v int) (int, api.Errno)                       = limit.Low
	_ func(a *arena.Arena, id, v int) (int, api.Errno)                       = limit.High
	_ func(a *arena.Arena, id, v int) (lower, upper []api.Term, e api.Errno) = limit.Bounds
	_ func(a *arena.Arena, id, v int) (api.Int, api.Errno)                   = limit.Delta
)

// Layer 15.
var (
	_ func(a *arena.Arena, id, v int) (int, api.Step, api.Errno) = elim.Some
	_ func(a *arena.Arena, id, v int) (int, api.Step, api.Errno) = elim.All
)

// Layer 16.
var (
	_ func(a *arena.Arena, id int) (int, []api.Step, api.Errno)    = drive.Run
	_ func(a *arena.Arena, id, v int) (int, []api.Step, api.Errno) = drive.Some
)

// Layer 17.
var (
	_ func(a *arena.Arena, id int, vals []api.Value) (bool, api.Errno)  = ground.Eval
	_ func(a *arena.Arena, id int, rows [][]api.Value) (int, api.Errno) = ground.Count
)

// Layer 18.
var (
	_ func() *periods.Set                                            = periods.None
	_ func(k api.Int) *periods.Set                                   = periods.Above
	_ func(d, r api.Int) (*periods.Set, api.Errno)                   = periods.Class
	_ func(a *arena.Arena, id, v int) (*periods.Set, api.Errno)      = periods.Of
	_ func(s *periods.Set, x api.Int) bool                           = (*periods.Set).Has
	_ func(s *periods.Set, o *periods.Set) (*periods.Set, api.Errno) = (*periods.Set).Meet
	_ func(s *periods.Set, o *periods.Set) (*periods.Set, api.Errno) = (*periods.Set).Join
	_ func(s *periods.Set) *periods.Set                              = (*periods.Set).Rest
	_ func(s *periods.Set, o *periods.Set) bool                      = (*periods.Set).Same
	_ func(s *periods.Set) []api.Int                                 = (*periods.Set).Cuts
	_ func(s *periods.Set) int                                       = (*periods.Set).Period
)

// Layer 19.
var (
	_ func(s *periods.Set, lo, hi api.Int) (api.Int, api.Errno)   = census.Count
	_ func(s *periods.Set, x api.Int) (api.Int, bool)             = census.Next
	_ func(s *periods.Set, x api.Int) (api.Int, bool)             = census.Last
	_ func(s *periods.Set, lo, hi api.Int) ([]api.Int, api.Errno) = census.List
	_ func(s *periods.Set) (api.Int, bool)                        = census.Finite
	_ func(s *periods.Set) (api.Int, bool)                        = census.Least
)

// Layer 20.
var (
	_ func(a *arena.Arena, id int, vars []int, vals []api.Value) ([]api.Int, bool, api.Errno) = witness.Find
	_ func(a *arena.Arena, id, v int) (api.Int, bool, api.Errno)                              = witness.One
)

// Layer 21.
var (
	_ func(t api.Tree) (api.Tree, []api.Step, api.Errno)      = verdict.Eliminate
	_ func(t api.Tree) (bool, api.Errno)                      = verdict.Decide
	_ func(t api.Tree, vals []api.Int) (bool, api.Errno)      = verdict.Eval
	_ func(t api.Tree, vals []api.Int) ([]api.Int, api.Errno) = verdict.Witness
	_ func(t api.Tree) (int, api.Errno)                       = verdict.Cost
	_ func(t api.Tree) (*periods.Set, api.Errno)              = verdict.Solutions
)

// Layer 22.
var (
	_ func() *store.Store                                     = store.New
	_ func(s *store.Store, name string, t api.Tree) api.Errno = (*store.Store).Put
	_ func(s *store.Store, name string) (api.Tree, bool)      = (*store.Store).Get
	_ func(s *store.Store, name string) api.Errno             = (*store.Store).Drop
	_ func(s *store.Store) iter.Seq[string]                   = (*store.Store).Names
	_ func(s *store.Store) int                                = (*store.Store).Len
	_ func(s *store.Store) int                                = (*store.Store).Nodes
)

// Layer 23.
var (
	_ func(j api.Job) api.Answer                                  = crew.Do
	_ func(jobs []api.Job, workers int) ([]api.Answer, api.Errno) = crew.Run
)

// Layer 24.
var (
	_ func() *session.Session                                    = session.New
	_ func(s *session.Session, line string) (string, api.Mishap) = (*session.Session).Do
	_ func(script string) (string, api.Errno)                    = session.Run
	_ func() []string                                            = session.Names
)
