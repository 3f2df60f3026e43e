package knots

import (
	"math"
	"slices"
)

// What stands of a thing in hunt's back, beside places in open, which are counted from 1.
const (
	unmet = 0
	told  = math.MaxInt // its knot has been told: no place is as great
)

// hunt goes along all edges in depth, each once. It keeps its own way, as a chain may be longer than calls may be deep.
type hunt struct {
	web   web
	open  []int // things that were met, whose knots haven't been told
	back  []int // of each thing in open: the least place there to which it is known to come back
	way   []stop
	least []int
}

// stop is a thing on the way, its place in open, and the things behind it that are still to be looked at.
type stop struct {
	thing, place int
	left         []int
}

// knots tells for each thing the least one of its knot.
func (w web) knots() []int {
	h := hunt{web: w, back: make([]int, w.size()), least: make([]int, w.size())}
	for thing := range w.size() {
		if h.back[thing] == unmet {
			h.from(thing)
		}
	}
	return h.least
}

func (h *hunt) from(thing int) {
	h.enter(thing)
	for len(h.way) > 0 {
		last := &h.way[len(h.way)-1]
		if len(last.left) == 0 {
			h.leave()
			continue
		}
		next := last.left[0]
		if h.back[next] == unmet {
			// It stays in left: once it has been gone through, it is known how far back it comes.
			h.enter(next)
			continue
		}
		h.back[last.thing] = min(h.back[last.thing], h.back[next])
		last.left = last.left[1:]
	}
}

func (h *hunt) enter(thing int) {
	h.open = append(h.open, thing)
	h.back[thing] = len(h.open)
	h.way = append(h.way, stop{thing, len(h.open), h.web.behind(thing)})
}

// leave tells a knot, when the first of its things that was met is left: all others lie behind it in open.
func (h *hunt) leave() {
	last := h.way[len(h.way)-1]
	h.way = h.way[:len(h.way)-1]
	if h.back[last.thing] < last.place {
		return
	}
	knot := h.open[last.place-1:]
	h.open = h.open[:last.place-1]
	least := slices.Min(knot)
	for _, thing := range knot {
		h.back[thing], h.least[thing] = told, least
	}
}
