package record

import (
	"tambour/api"
	"tambour/graph"
	"tambour/knots"
	"tambour/poset"
)

// A Ref's At, where it is no place of Deps.
const (
	edge = -1 // the top, the bottom
	own  = -2 // a line of the patch itself
)

// The top and the bottom, by their places in a graph: their ids are the least ones.
const (
	top    = 0
	bottom = 1
)

// pair is of two lines' ids, the first ahead of the second.
type pair = [2]api.Id

// ground is what a text is laid on: the lines of a set, by their places in its graph.
type ground struct {
	set    []api.Named
	graph  api.Graph
	order  *poset.Order
	knots  []int
	crowds []int        // of the least thing of each knot: how many of its lines are alive
	cuts   map[pair]int // of each pair its Cuts less its Joins
}

func survey(set []api.Named) (*ground, error) {
	g, err := graph.Build(set)
	if err != nil {
		return nil, err
	}
	n := len(g.Vertices)
	s := &ground{
		set:    set,
		graph:  g,
		order:  poset.New(n, g.Edges),
		knots:  knots.Knots(n, g.Edges),
		crowds: make([]int, n),
		cuts:   map[pair]int{},
	}
	for place, knot := range s.knots {
		if graph.Alive(g, place) {
			s.crowds[knot]++
		}
	}
	for _, p := range set {
		s.count(p)
	}
	return s, nil
}

// count counts p's own Joins and Cuts: the graph tells of a pair's that there are more of the ones, but not how many.
func (g *ground) count(p api.Named) {
	for _, o := range p.Patch.Ops {
		switch o.Kind {
		case api.OpJoin:
			g.cuts[pair{meant(p, o.A), meant(p, o.B)}]--
		case api.OpCut:
			g.cuts[pair{meant(p, o.A), meant(p, o.B)}]++
		}
	}
}

// meant is the id of what a ref of p means.
func meant(p api.Named, r api.Ref) api.Id {
	switch r.At {
	case edge:
		return api.Id{N: r.N}
	case own:
		return api.Id{Patch: p.Name, N: r.N}
	}
	return api.Id{Patch: p.Patch.Deps[r.At], N: r.N}
}

// tangled asks the knot, and not the view, which tells of a tangled item in a run of several that it isn't sorted.
func (g *ground) tangled(place int) bool {
	return g.crowds[g.knots[place]] > 1
}

func (g *ground) id(place int) api.Id {
	return g.graph.Vertices[place].Id
}

func (g *ground) isLine(place int) bool {
	return g.id(place).Patch != ""
}
