package render

import (
	"tambour/api"
	"tambour/graph"
	"tambour/knots"
	"tambour/poset"
)

// The kinds of runs: those of the conflicts, and that of a line by itself.
const (
	plain    = ""
	unsorted = "order"
	tangled  = "tangled"
	doubtful = "doubtful"
)

// The markers; a conflict's kind stands behind the first one.
const (
	opening = ">>>>>>> "
	parting = "======="
	closing = "<<<<<<<"
)

// sheet is a graph's view, as far as it has been written. An item is told by its first line.
type sheet struct {
	graph   api.Graph
	order   *poset.Order
	knots   []int
	items   [][]int // of the least thing of each knot: its lines that are alive, by their places
	doubted []bool
	view    api.View
}

func lay(g api.Graph, doubts []api.Doubt) *sheet {
	n := len(g.Vertices)
	s := &sheet{
		graph:   g,
		order:   poset.New(n, g.Edges),
		knots:   knots.Knots(n, g.Edges),
		items:   make([][]int, n),
		doubted: make([]bool, n),
	}
	for place, knot := range s.knots {
		if graph.Alive(g, place) {
			s.items[knot] = append(s.items[knot], place)
		}
	}
	for _, d := range doubts {
		s.doubted[graph.Place(g, d.Line)] = true
	}
	return s
}

func (s *sheet) runs() [][]int {
	var firsts []int
	for _, item := range s.items {
		if len(item) > 0 {
			firsts = append(firsts, item[0])
		}
	}
	return s.order.Runs(firsts)
}

func (s *sheet) item(first int) []int {
	return s.items[s.knots[first]]
}

// kind asks for a tangle ahead of a doubt: a tangled item's lines are told together, whoever doubts one of them.
func (s *sheet) kind(run []int) string {
	switch {
	case len(run) > 1:
		return unsorted
	case len(s.item(run[0])) > 1:
		return tangled
	case s.doubted[run[0]]:
		return doubtful
	}
	return plain
}

// write parts a run of any kind by its sides: a run of one item has one side.
func (s *sheet) write(run []int) {
	kind := s.kind(run)
	if kind != plain {
		s.mark(opening + kind)
	}
	var ids []api.Id
	for i, side := range s.order.Sides(run) {
		if i > 0 {
			s.mark(parting)
		}
		ids = append(ids, s.side(side)...)
	}
	switch kind {
	case unsorted:
		fallthrough
	case tangled:
		fallthrough
	case doubtful:
		s.mark(closing)
		s.view.Conflicts = append(s.view.Conflicts, api.Conflict{Kind: kind, Lines: ids})
	}
}

func (s *sheet) mark(text string) {
	s.view.Rows = append(s.view.Rows, api.Row{Text: text, Marker: true})
}

// side writes the lines of these items, and tells their ids.
func (s *sheet) side(firsts []int) []api.Id {
	var ids []api.Id
	for _, first := range firsts {
		for _, place := range s.item(first) {
			v := s.graph.Vertices[place]
			s.view.Rows = append(s.view.Rows, api.Row{Text: v.Line, Id: v.Id})
			ids = append(ids, v.Id)
		}
	}
	return ids
}
