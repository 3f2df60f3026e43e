package render

import (
	"slices"

	"tambour/api"
	"tambour/graph"
)

// inquiry asks of lines that are alive who has deleted what they stand beside.
type inquiry struct {
	graph    api.Graph
	kin      *kin
	deleters [][]int // of each place: the patches that have a Delete op that means its line
}

// doubts goes through the lines by their places: those of one patch stand together, and so kin is quick.
func doubts(set []api.Named, g api.Graph) []api.Doubt {
	q := inquiry{graph: g, kin: meet(set), deleters: make([][]int, len(g.Vertices))}
	for _, p := range set {
		q.note(p)
	}
	var out []api.Doubt
	for place, v := range g.Vertices {
		if !graph.Alive(g, place) {
			continue
		}
		if names := q.ask(v); len(names) > 0 {
			out = append(out, api.Doubt{Line: v.Id, Patches: names})
		}
	}
	return out
}

// note looks for Deletes' lines among those of p's Deps alone, since a right Delete names no other ones.
func (q inquiry) note(p api.Named) {
	number := q.kin.number(p.Name)
	for _, o := range p.Patch.Ops {
		if o.Kind != api.OpDelete {
			continue
		}
		place := graph.Place(q.graph, api.Id{Patch: p.Patch.Deps[o.A.At], N: o.A.N})
		if l := q.deleters[place]; len(l) == 0 || l[len(l)-1] != number {
			q.deleters[place] = append(l, number)
		}
	}
}

// ask tells the names of a doubt about v's line: none, if there is no doubt.
func (q inquiry) ask(v api.Vertex) []string {
	own := q.kin.number(v.Id.Patch)
	var found []int
	for _, id := range []api.Id{v.Above, v.Below} {
		place := graph.Place(q.graph, id)
		if graph.Alive(q.graph, place) {
			continue
		}
		for _, number := range q.deleters[place] {
			if !q.kin.knows(number, own) {
				found = append(found, number)
			}
		}
	}
	if len(found) == 0 {
		return nil
	}
	found = append(found, own)
	slices.Sort(found)
	var names []string
	for _, number := range slices.Compact(found) {
		names = append(names, q.kin.names[number])
	}
	return names
}
