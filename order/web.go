package order

import (
	"container/heap"
	"slices"

	"tambour/api"
)

// none is the place of a name that isn't in the set.
const none = -1

// web is a set by the places of its names, so that the order in which it was told is gone. What several patches of one
// name need stands at the one place of that name.
type web struct {
	names []string // rising, each once
	needs [][]int  // of each name: the places of its Deps, or none
}

func weave(set []api.Named) web {
	names := make([]string, 0, len(set))
	for _, p := range set {
		names = append(names, p.Name)
	}
	slices.Sort(names)
	names = slices.Compact(names)
	w := web{names: names, needs: make([][]int, len(names))}
	for _, p := range set {
		at := w.place(p.Name)
		for _, d := range p.Patch.Deps {
			w.needs[at] = append(w.needs[at], w.place(d))
		}
	}
	return w
}

func (w web) place(name string) int {
	at, found := slices.BinarySearch(w.names, name)
	if !found {
		return none
	}
	return at
}

// only are the names whose places are asked for, rising.
func (w web) only(asked func(int) bool) []string {
	var out []string
	for i, name := range w.names {
		if asked(i) {
			out = append(out, name)
		}
	}
	return out
}

// past says of each place whether at needs it. It keeps its own list of what is still to be asked, as a chain may be
// longer than calls may be deep.
func (w web) past(at int) []bool {
	seen := make([]bool, len(w.names))
	left := []int{at}
	for len(left) > 0 {
		i := left[len(left)-1]
		left = left[:len(left)-1]
		for _, d := range w.needs[i] {
			if d != none && !seen[d] {
				seen[d] = true
				left = append(left, d)
			}
		}
	}
	return seen
}

// line tells what can be told, and no more: who waits in a ring, or for a Dep that isn't there, is held back for ever.
// The heap needs no laying out: what it begins with rises.
func (w web) line() []string {
	waits, users := w.users()
	var r ready
	for i, n := range waits {
		if n == 0 {
			r = append(r, i)
		}
	}
	var out []string
	for len(r) > 0 {
		i := heap.Pop(&r).(int)
		out = append(out, w.names[i])
		for _, u := range users[i] {
			waits[u]--
			if waits[u] == 0 {
				heap.Push(&r, u)
			}
		}
	}
	return out
}

// users are for each place how many Deps it waits for, and who waits for it; a Dep that is told twice counts twice in both.
func (w web) users() ([]int, [][]int) {
	waits, users := make([]int, len(w.names)), make([][]int, len(w.names))
	for i, needs := range w.needs {
		waits[i] = len(needs)
		for _, d := range needs {
			if d != none {
				users[d] = append(users[d], i)
			}
		}
	}
	return waits, users
}
