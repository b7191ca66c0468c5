package store_test

import (
	"slices"
	"strconv"
	"strings"
	"testing"

	"riddle/api"
	"riddle/store"
	"riddle/syntax"
)

const drawn = 20000

// A slow store is two lists, gone through one by one, that do what the chapter says, word by word.
type slow struct {
	names []string
	trees []api.Tree
}

func isName(name string) bool {
	const letters, more = "abcdefghijklmnopqrstuvwxyzABCDEFGHIJKLMNOPQRSTUVWXYZ", "0123456789_"
	if len(name) < 1 || len(name) > mostBytes || !strings.Contains(letters, name[:1]) || strings.Trim(name, letters+more) != "" {
		return false
	}
	return !slices.Contains([]string{"and", "or", "not", "some", "all", "true", "false", "implies", "iff", "divides"}, name)
}

func (s *slow) put(name string, t api.Tree) api.Errno {
	if !isName(name) {
		return api.ErrName
	}
	if e := syntax.Check(t); e != api.OK {
		return e
	}
	with := slow{slices.Clone(s.names), slices.Clone(s.trees)}
	with.drop(name)
	with.names, with.trees = append(with.names, name), append(with.trees, t)
	if len(with.names) > mostNames || with.nodes() > mostNodes {
		return api.ErrStore
	}
	*s = with
	return api.OK
}

func (s *slow) get(name string) (api.Tree, bool) {
	for i := range s.names {
		if s.names[i] == name {
			return s.trees[i], true
		}
	}
	return api.Tree{}, false
}

func (s *slow) drop(name string) api.Errno {
	i := slices.Index(s.names, name)
	if i < 0 {
		return api.ErrUnknown
	}
	s.names, s.trees = slices.Delete(s.names, i, i+1), slices.Delete(s.trees, i, i+1)
	return api.OK
}

func (s *slow) nodes() int {
	nodes := 0
	for _, t := range s.trees {
		nodes += sizeOf(t)
	}
	return nodes
}

func (s *slow) told() string {
	sorted := slices.Clone(s.names)
	slices.Sort(sorted)
	return strings.Join(sorted, " ")
}

// A step is a call with its arguments.
type step struct {
	call int
	name string
	tree api.Tree
}

const (
	putting = iota
	getting
	dropping
	counting
	steps
)

func tellGot(t api.Tree, is bool) string { return strconv.FormatBool(is) + " " + tell(t) }

func tellCounts(length, nodes int, names string) string {
	return strconv.Itoa(length) + " " + strconv.Itoa(nodes) + " " + names
}

func (c step) ask(s *store.Store) string {
	switch c.call {
	case putting:
		return s.Put(c.name, c.tree).Error()
	case getting:
		return tellGot(s.Get(c.name))
	case dropping:
		return s.Drop(c.name).Error()
	}
	return tellCounts(s.Len(), s.Nodes(), strings.Join(gone(s), " "))
}

func (c step) askSlow(s *slow) string {
	switch c.call {
	case putting:
		return s.put(c.name, c.tree).Error()
	case getting:
		return tellGot(s.get(c.name))
	case dropping:
		return s.drop(c.name).Error()
	}
	return tellCounts(len(s.names), s.nodes(), s.told())
}

func (c step) String() string {
	return []string{"Put", "Get", "Drop", "Len, Nodes, Names"}[c.call] + "(" + c.name + ", " + short(tell(c.tree)) + ")"
}

// name is one of so many, or now and then none.
func (d *dice) name(most int) string {
	if d.roll(40) == 0 {
		names := wrongNames()
		return names[d.roll(len(names))]
	}
	return "n" + strconv.Itoa(d.roll(most))
}

// tree may be, but now and then may not.
func (d *dice) tree(most int) api.Tree {
	switch d.roll(20) {
	case 0:
		trees := wrongTrees()
		return trees[d.roll(len(trees))].t
	case 1, 2, 3, 4, 5, 6, 7:
		return d.formula(1 + d.roll(5))
	}
	return wide(1 + d.roll(most))
}

// step is more often a Put than a Drop, so that the store is often full.
func (d *dice) step(names, nodes int) step {
	call := []int{putting, putting, putting, putting, getting, getting, dropping, counting}[d.roll(8)]
	c := step{call: call, name: d.name(names)}
	if call == putting {
		c.tree = d.tree(nodes)
	}
	return c
}

// Drawn calls against the slow store: with few names and great trees the nodes are too many, with many names the names.
func TestDrawn(t *testing.T) {
	for _, l := range []struct{ names, nodes int }{{3, 2000}, {8, 900}, {30, 350}, {44, 120}, {60, 12}} {
		d := &dice{state: uint64(l.names)}
		s, want := store.New(), &slow{}
		refused := map[string]int{}
		for i := range drawn / 5 {
			c := d.step(l.names, l.nodes)
			got, wanted := c.ask(s), c.askSlow(want)
			if got != wanted {
				t.Fatalf("%d: %s: %s, want %s", i, c, short(got), short(wanted))
			}
			if c.call == putting {
				refused[got]++
			}
			if i%50 == 0 {
				state(t, s)
			}
		}
		for _, e := range []api.Errno{api.OK, api.ErrName, api.ErrArg, api.ErrZero, api.ErrStore} {
			if refused[e.Error()] < 3 {
				t.Errorf("of %d names: %v came %d times", l.names, e, refused[e.Error()])
			}
		}
	}
}

// The state behind drawn calls is that of putting what is there alone, in another order: nothing else is kept.
func TestP224WhateverTheWay(t *testing.T) {
	d := &dice{state: 223}
	for range 100 {
		s := store.New()
		for range 100 {
			d.step(12, 400).ask(s)
		}
		names := gone(s)
		slices.Reverse(names)
		other := store.New()
		for _, name := range names {
			f, _ := s.Get(name)
			wantPut(t, other, name, f, api.OK)
		}
		if state(t, s) != state(t, other) {
			t.Fatal("the state hangs on the way")
		}
		for range 30 {
			c := d.step(12, 400)
			if a, b := c.ask(s), c.ask(other); a != b {
				t.Fatalf("%s: %s and %s", c, short(a), short(b))
			}
		}
	}
}
