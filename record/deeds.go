package record

import (
	"slices"

	"tambour/api"
)

// deed is an op that tells its lines by their ids: which refs mean them hangs on the Deps, which aren't known yet.
type deed struct {
	kind  int
	a, b  api.Id
	lines []string
}

// deletes are so many of each line that it isn't alive any more: it may have been revived more often than it was deleted.
func (g *ground) deletes(gone []int) []deed {
	var out []deed
	for _, place := range gone {
		v := g.graph.Vertices[place]
		out = append(out, slices.Repeat([]deed{{kind: api.OpDelete, a: v.Id}}, 1-v.Deleted)...)
	}
	return out
}

// knit goes from one kept line to the next one, the top and the bottom being kept.
func (g *ground) knit(elements []element) []deed {
	var out []deed
	var fresh []string
	ahead := top
	for _, e := range elements {
		if e.place == none {
			fresh = append(fresh, e.text)
			continue
		}
		out = append(out, g.gap(ahead, e.place, fresh)...)
		ahead, fresh = e.place, nil
	}
	return append(out, g.gap(ahead, bottom, fresh)...)
}

// gap puts the new lines between two kept ones. If there are none, it sees to it that the first one comes to be ahead of
// the second: where it isn't, no edge leads from the one to the other, and so their Cuts are no fewer than their Joins.
func (g *ground) gap(a, b int, fresh []string) []deed {
	ends := pair{g.id(a), g.id(b)}
	if len(fresh) > 0 {
		return []deed{{kind: api.OpNew, a: ends[0], b: ends[1], lines: fresh}}
	}
	if !g.isLine(a) || !g.isLine(b) || g.order.Ahead(a, b) {
		return nil
	}
	return slices.Repeat([]deed{{kind: api.OpJoin, a: ends[0], b: ends[1]}}, g.cuts[ends]+1)
}

// draw writes the deeds as ops of a patch that needs these.
func draw(deeds []deed, n needs, note string) api.Patch {
	p := api.Patch{Note: note, Deps: n.rising()}
	for _, d := range deeds {
		o := api.Op{Kind: d.kind, A: ref(p.Deps, d.a), Lines: d.lines}
		if d.kind != api.OpDelete {
			o.B = ref(p.Deps, d.b)
		}
		p.Ops = append(p.Ops, o)
	}
	return p
}

func ref(deps []string, id api.Id) api.Ref {
	if id.Patch == "" {
		return api.Ref{At: edge, N: id.N}
	}
	at, _ := slices.BinarySearch(deps, id.Patch)
	return api.Ref{At: at, N: id.N}
}
