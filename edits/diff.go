package edits

import (
	"tambour/api"
)

// A front tells how far a search has come with so many edits: at c, the farthest place in a that it comes to when c of
// them cut, or none. The others put, so that the place in b needn't be kept: see across.
type front []int

const none = -1

// step is one line that is cut from the place x of a, or put there from the place y of b.
type step struct {
	x, y int
	cut  bool
}

// Diff searches with at most MaxWork edits at a time. What needs no more has its least cost from the first search; what
// needs more goes on from where the search kept the most lines, so that the steps grow with the lines alone.
func Diff(a, b []string) []api.Hunk {
	a, b = withoutTail(a, b)
	var h []api.Hunk
	for x, y := 0, 0; x < len(a) || y < len(b); {
		restA, restB := a[x:], b[y:]
		fronts := search(restA, restB)
		last := fronts[len(fronts)-1]
		cuts := last.best(restA, restB)
		for _, s := range retrace(restA, restB, fronts, cuts) {
			h = join(h, step{x + s.x, y + s.y, s.cut}, b)
		}
		x, y = x+last[cuts], y+across(last[cuts], cuts, len(last)-1)
	}
	return h
}

// withoutTail drops the lines at the end that are the same: a search that gives up early might lose them.
func withoutTail(a, b []string) ([]string, []string) {
	for len(a) > 0 && len(b) > 0 && a[len(a)-1] == b[len(b)-1] {
		a, b = a[:len(a)-1], b[:len(b)-1]
	}
	return a, b
}

// search answers a front for each number of edits, from 0 on, till one has all lines behind it or MaxWork are made.
func search(a, b []string) []front {
	last := front{kept(a, b, 0, 0)}
	fronts := []front{last}
	for !last.whole(a, b) && len(fronts) <= api.MaxWork {
		last = last.next(a, b)
		fronts = append(fronts, last)
	}
	return fronts
}

// next is the front with one edit more. On each diagonal the place that is farther is never the worse one to go on from,
// and a place past the end of a list leads nowhere: that is why the farthest one within both lists is enough.
func (f front) next(a, b []string) front {
	n := len(f)
	out := make(front, n+1)
	for cuts := range out {
		x := max(f.put(cuts, b), f.cut(cuts, a))
		if x != none {
			x = kept(a, b, x, across(x, cuts, n))
		}
		out[cuts] = x
	}
	return out
}

// put is where the next front begins with so many cuts, if its last edit puts a line: none, where no line is left to put.
func (f front) put(cuts int, b []string) int {
	if cuts == len(f) || f[cuts] == none || across(f[cuts], cuts, len(f)) > len(b) {
		return none
	}
	return f[cuts]
}

// cut is where it begins if its last edit cuts a line: none, where no line is left to cut.
func (f front) cut(cuts int, a []string) int {
	if cuts == 0 || f[cuts-1] == none || f[cuts-1] == len(a) {
		return none
	}
	return f[cuts-1] + 1
}

// across is the place in b that belongs to x of a: as many lines are kept there, and the edits that don't cut have put.
func across(x, cuts, edits int) int {
	return x - cuts + edits - cuts
}

// kept goes along the lines that are the same, from x and y on: keeping them costs nothing.
func kept(a, b []string, x, y int) int {
	for x < len(a) && y < len(b) && a[x] == b[y] {
		x, y = x+1, y+1
	}
	return x
}

// whole holds for the best place alone: none but the end of both lists has so many lines kept with so many edits.
func (f front) whole(a, b []string) bool {
	cuts := f.best(a, b)
	return f[cuts] == len(a) && across(f[cuts], cuts, len(f)-1) == len(b)
}

// best tells with how many cuts the most lines are kept. Of several it takes the one from which as nearly as may be as
// many lines of a are left as of b: it can keep most of them still.
func (f front) best(a, b []string) int {
	found := none
	for cuts, x := range f {
		if x == none {
			continue
		}
		if found == none || x-cuts > f[found]-found || x-cuts == f[found]-found && f.uneven(cuts, a, b) < f.uneven(found, a, b) {
			found = cuts
		}
	}
	return found
}

// uneven is by how many the lines that are left of one list are more than those of the other.
func (f front) uneven(cuts int, a, b []string) int {
	left := len(a) - f[cuts]
	other := len(b) - across(f[cuts], cuts, len(f)-1)
	return max(left-other, other-left)
}

// retrace answers the steps that led to the last front's place cuts, in their order. It asks each front once more what
// the next one asked it, so that nothing but the fronts need be kept.
func retrace(a, b []string, fronts []front, cuts int) []step {
	out := make([]step, len(fronts)-1)
	for edits := len(out) - 1; edits >= 0; edits-- {
		f := fronts[edits]
		cut := f.cut(cuts, a) > f.put(cuts, b)
		if cut {
			cuts--
		}
		out[edits] = step{f[cuts], across(f[cuts], cuts, edits), cut}
	}
	return out
}

// join takes a step into the last hunk if no kept line stands between, since hunks mustn't touch.
func join(h []api.Hunk, s step, b []string) []api.Hunk {
	if len(h) == 0 || h[len(h)-1].At+h[len(h)-1].Cut < s.x {
		h = append(h, api.Hunk{At: s.x})
	}
	k := &h[len(h)-1]
	if s.cut {
		k.Cut++
	} else {
		k.Put = append(k.Put, b[s.y])
	}
	return h
}
