package graph

import (
	"slices"
	"strings"

	"tambour/api"
	"tambour/patch"
)

// lot is where a patch's lines lie among the vertices, and how many they are.
type lot struct {
	first, made int
}

// pair is of two places, the first ahead of the second.
type pair = [2]int

// sketch is a graph that is being drawn. All vertices are laid out ahead of the first op, so that it is all one in which
// order the patches are drawn.
type sketch struct {
	lots     map[string]lot
	vertices []api.Vertex
	put      []pair
	joins    map[pair]int // of each pair its Joins less its Cuts
}

// lay begins with the top and the bottom, whose places are the Ns of the refs that mean them.
func lay(set []api.Named) *sketch {
	s := &sketch{lots: map[string]lot{}, vertices: []api.Vertex{{}, {Id: api.Id{N: 1}}}, joins: map[pair]int{}}
	rising := slices.SortedFunc(slices.Values(set), func(p, q api.Named) int { return strings.Compare(p.Name, q.Name) })
	for _, p := range rising {
		l := lot{first: len(s.vertices), made: patch.Made(p.Patch)}
		s.lots[p.Name] = l
		for n := range l.made {
			s.vertices = append(s.vertices, api.Vertex{Id: api.Id{Patch: p.Name, N: n}})
		}
	}
	return s
}

func (s *sketch) draw(p api.Named) {
	next := s.lots[p.Name].first
	for _, o := range p.Patch.Ops {
		switch o.Kind {
		case api.OpNew:
			s.lines(s.between(p, o), o.Lines, next)
			next += len(o.Lines)
		case api.OpJoin:
			s.joins[s.between(p, o)]++
		case api.OpCut:
			s.joins[s.between(p, o)]--
		case api.OpDelete:
			s.vertices[s.place(p, o.A)].Deleted++
		case api.OpRevive:
			s.vertices[s.place(p, o.A)].Deleted--
		}
	}
}

func (s *sketch) between(p api.Named, o api.Op) pair {
	return pair{s.place(p, o.A), s.place(p, o.B)}
}

// lines puts them on the vertices from next on.
func (s *sketch) lines(ends pair, lines []string, next int) {
	above, below := s.vertices[ends[0]].Id, s.vertices[ends[1]].Id
	ahead := ends[0]
	for i, line := range lines {
		v := &s.vertices[next+i]
		v.Line, v.Above, v.Below = line, above, below
		s.put = append(s.put, pair{ahead, next + i})
		ahead = next + i
	}
	s.put = append(s.put, pair{ahead, ends[1]})
}

// edges sorts what comes of the map too: the order in which a map is gone through must not be seen.
func (s *sketch) edges() []pair {
	all := slices.Clone(s.put)
	for p, n := range s.joins {
		if n > 0 {
			all = append(all, p)
		}
	}
	slices.SortFunc(all, func(p, q pair) int { return slices.Compare(p[:], q[:]) })
	return slices.Compact(all)
}
