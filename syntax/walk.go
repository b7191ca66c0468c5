package syntax

import (
	"iter"
	"slices"
	"strings"

	"riddle/api"
	"riddle/zint"
)

// A span is a list of kids by its memory. One list may hang at many places of a tree, or even below itself: each call
// looks at it as often as it must and no more, so that it ends whatever hangs where. What it answers does not hang on it.
type span struct {
	first *api.Tree
	n     int
}

func spanOf(list []api.Tree) span {
	if len(list) == 0 {
		return span{}
	}
	return span{&list[0], len(list)}
}

// spans are those that were met.
type spans map[span]struct{}

// meet tells whether a list with something in it is met for the first time.
func (s spans) meet(list []api.Tree) bool {
	if len(list) == 0 {
		return false
	}
	before := len(s)
	s[spanOf(list)] = struct{}{}
	return len(s) > before
}

// trees goes over a tree and all in it, but once alone over what hangs at several places.
func trees(t api.Tree) iter.Seq[api.Tree] {
	return func(yield func(api.Tree) bool) {
		met := spans{}
		for work := [][]api.Tree{{t}}; len(work) > 0; {
			last := len(work) - 1
			list := work[last]
			work = work[:last]
			for _, u := range list {
				if !yield(u) {
					return
				}
				if met.meet(u.Kids) {
					work = append(work, u.Kids)
				}
			}
		}
	}
}

// isDeep tells whether a tree's depth is above the limit. It goes down level by level, no further than it must.
func isDeep(t api.Tree) bool {
	level := [][]api.Tree{{t}}
	for range api.MaxDepth {
		level = below(level)
	}
	return len(level) > 0
}

// below is the next level of lists, each once.
func below(level [][]api.Tree) [][]api.Tree {
	met := spans{}
	var next [][]api.Tree
	for _, list := range level {
		for _, t := range list {
			if met.meet(t.Kids) {
				next = append(next, t.Kids)
			}
		}
	}
	return next
}

// A pair is of two lists of one length that are to be held against each other.
type pair struct {
	a, b []api.Tree
}

// alike tells whether two trees are the same, but for what is in their kids.
func alike(a, b api.Tree) bool {
	return a.Kind == b.Kind && a.Name == b.Name && slices.Equal(a.Names, b.Names) && zint.Cmp(a.N, b.N) == 0 && len(a.Kids) == len(b.Kids)
}

// A copier keeps, of each list that it is within, what it makes of it: below itself the list is that again, since there
// would be no end otherwise. All else is made anew at each place.
type copier struct {
	open map[span][]api.Tree
}

func (c copier) tree(t api.Tree) api.Tree {
	var names []string
	for _, name := range t.Names {
		names = append(names, strings.Clone(name))
	}
	return api.Tree{Kind: t.Kind, Name: strings.Clone(t.Name), Names: names, N: zint.Norm(t.N), Kids: c.kids(t.Kids)}
}

func (c copier) kids(list []api.Tree) []api.Tree {
	if len(list) == 0 {
		return nil
	}
	key := spanOf(list)
	if made, ok := c.open[key]; ok {
		return made
	}
	made := make([]api.Tree, len(list))
	c.open[key] = made
	for i, t := range list {
		made[i] = c.tree(t)
	}
	delete(c.open, key)
	return made
}

// nothingBound is the scope of a tree as a whole.
const nothingBound = 0

// A binding is a name that is bound on top of a scope, and so makes another one.
type binding struct {
	scope int
	name  string
}

// A view is a list of kids seen in a scope: seen again it has nothing new.
type view struct {
	list  span
	scope int
}

// A finder looks for free names. It counts the quantifiers above that have a name; scopes are numbers of what is bound so.
type finder struct {
	bound  map[string]int
	scopes map[binding]int
	seen   map[view]struct{}
	found  map[string]struct{}
}

func (f finder) look(list []api.Tree, scope int) {
	for _, t := range list {
		if t.Kind == api.TreeVar && f.bound[t.Name] == 0 {
			f.found[t.Name] = struct{}{}
		}
		f.lookBelow(t, scope)
	}
}

func (f finder) lookBelow(t api.Tree, scope int) {
	if len(t.Kids) == 0 {
		return
	}
	var names []string
	if isQuantifier(t.Kind) {
		names = t.Names
	}
	for _, name := range names {
		scope = f.bind(name, scope)
	}
	here := view{spanOf(t.Kids), scope}
	if _, ok := f.seen[here]; !ok {
		f.seen[here] = struct{}{}
		f.look(t.Kids, scope)
	}
	for _, name := range names {
		f.bound[name]--
	}
}

// bind is the scope with one name more; the same, if it has it.
func (f finder) bind(name string, scope int) int {
	f.bound[name]++
	if f.bound[name] > 1 {
		return scope
	}
	key := binding{scope, name}
	if _, ok := f.scopes[key]; !ok {
		f.scopes[key] = nothingBound + 1 + len(f.scopes)
	}
	return f.scopes[key]
}
