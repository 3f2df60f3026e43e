package record

import (
	"maps"
	"slices"

	"tambour/api"
)

// needs are the names of the patches that a patch needs, each once.
type needs map[string]struct{}

func (n needs) rising() []string {
	return slices.Sorted(maps.Keys(n))
}

func (n needs) names(l []string) {
	for _, name := range l {
		n[name] = struct{}{}
	}
}

// lines takes in whose lines the deeds name.
func (n needs) lines(deeds []deed) {
	for _, d := range deeds {
		for _, id := range []api.Id{d.a, d.b} {
			if id.Patch != "" {
				n[id.Patch] = struct{}{}
			}
		}
	}
}

// neighbours takes in who has put a kept line beside one that goes, and who has deleted that one too: a patch that needs
// them all leaves no doubt about the kept line.
func (n needs) neighbours(g *ground, elements []element, gone []int) {
	left := map[api.Id]int{} // of each line that goes: how many kept ones stand beside it
	for _, place := range gone {
		left[g.id(place)] = 0
	}
	for _, e := range elements {
		if e.place == none {
			continue
		}
		v := g.graph.Vertices[e.place]
		for _, id := range []api.Id{v.Above, v.Below} {
			if _, goes := left[id]; goes {
				left[id]++
				n[v.Id.Patch] = struct{}{}
			}
		}
	}
	for _, p := range g.set {
		for _, o := range p.Patch.Ops {
			if o.Kind == api.OpDelete && left[meant(p, o.A)] > 0 {
				n[p.Name] = struct{}{}
			}
		}
	}
}

func (n needs) doubts(l []api.Doubt) {
	for _, d := range l {
		n.names(d.Patches)
	}
}
