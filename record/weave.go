package record

import (
	"tambour/api"
	"tambour/edits"
	"tambour/graph"
)

// none is the place of a line that is new.
const none = -1

// element is a line of the text: one that is kept, by its place in the graph, or a new one, by its text.
type element struct {
	place int
	text  string
}

// cloth is a text as far as it has been woven from the old lines and the new ones.
type cloth struct {
	ground   *ground
	elements []element
	gone     []int // the places of the old lines that aren't kept
}

// weave tells the elements, and the places of the old lines that aren't kept, both in their order.
func (g *ground) weave(view api.View, wanted []string) ([]element, []int) {
	var old []int
	var texts []string
	for _, r := range view.Rows {
		if !r.Marker {
			old = append(old, graph.Place(g.graph, r.Id))
			texts = append(texts, r.Text)
		}
	}
	c := cloth{ground: g}
	done := 0
	for _, h := range edits.Diff(texts, wanted) {
		c.leave(old[done:h.At])
		c.put(h.Put)
		done = h.At + h.Cut
		c.gone = append(c.gone, old[h.At:done]...)
	}
	c.leave(old[done:])
	return c.elements, c.gone
}

func (c *cloth) put(texts []string) {
	for _, text := range texts {
		c.elements = append(c.elements, element{none, text})
	}
}

// leave lays tangled lines anew: each stands ahead of the others already, and no Join more takes that back.
func (c *cloth) leave(old []int) {
	for _, place := range old {
		if c.ground.tangled(place) {
			c.put([]string{c.ground.graph.Vertices[place].Line})
			c.gone = append(c.gone, place)
			continue
		}
		c.elements = append(c.elements, element{place: place})
	}
}
