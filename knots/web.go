package knots

import "container/heap"

// web is of each thing the things that its edges go to.
type web struct {
	first []int // of each thing, and of one more: where its own begin among heads
	heads []int
}

// weave counts each thing's edges ahead of laying them out, so that they lie side by side.
func weave(n int, edges []edge) web {
	w := web{first: make([]int, n+1), heads: make([]int, len(edges))}
	for _, e := range edges {
		w.first[e[0]]++
	}
	past := 0
	for i, count := range w.first {
		past += count
		w.first[i] = past
	}
	// Each thing's first is past its last one here, and falls to where it belongs.
	for _, e := range edges {
		w.first[e[0]]--
		w.heads[w.first[e[0]]] = e[1]
	}
	return w
}

func (w web) size() int {
	return len(w.first) - 1
}

func (w web) behind(thing int) []int {
	return w.heads[w.first[thing]:w.first[thing+1]]
}

// line tells what can be told, and no more: what stands in a ring, or behind one, waits for ever. The heap needs no
// laying out: what it begins with rises.
func (w web) line() []int {
	waits := make([]int, w.size())
	for _, head := range w.heads {
		waits[head]++
	}
	var r ready
	for thing, n := range waits {
		if n == 0 {
			r.IntSlice = append(r.IntSlice, thing)
		}
	}
	var out []int
	for r.Len() > 0 {
		thing := heap.Pop(&r).(int)
		out = append(out, thing)
		for _, head := range w.behind(thing) {
			waits[head]--
			if waits[head] == 0 {
				heap.Push(&r, head)
			}
		}
	}
	return out
}
