package graph_test

import (
	"cmp"
	"errors"
	"fmt"
	"maps"
	"math/rand"
	"slices"
	"strings"
	"testing"

	"tambour/api"
	"tambour/graph"
	"tambour/order"
	"tambour/patch"
)

// meant says in the chapter's words what a ref of p means.
func meant(p api.Named, r api.Ref) api.Id {
	switch r.At {
	case -1:
		return api.Id{N: r.N}
	case -2:
		return api.Id{Patch: p.Name, N: r.N}
	}
	return api.Id{Patch: p.Patch.Deps[r.At], N: r.N}
}

// faultOf says in the chapter's words which error Build answers.
func faultOf(set []api.Named) api.Errno {
	var n api.Errno
	if errors.As(order.Check(set), &n) {
		return n
	}
	made := map[string]int{"": 2}
	for _, p := range set {
		if p.Name == "" || !patch.Right(p.Patch) {
			return api.ErrPatch
		}
		for _, o := range p.Patch.Ops {
			made[p.Name] += len(o.Lines)
		}
	}
	for _, p := range set {
		for _, o := range p.Patch.Ops {
			a, b := meant(p, o.A), api.Id{}
			if o.Kind <= 3 {
				b = meant(p, o.B)
			}
			if a.N >= made[a.Patch] || b.N >= made[b.Patch] {
				return api.ErrVertex
			}
		}
	}
	return api.OK
}

// linesOf says in the chapter's words which vertices a set has, by their ids.
func linesOf(set []api.Named) map[api.Id]api.Vertex {
	out := map[api.Id]api.Vertex{{}: {}, {N: 1}: {Id: api.Id{N: 1}}}
	for _, p := range set {
		n := 0
		for _, o := range p.Patch.Ops {
			for _, l := range o.Lines {
				id := api.Id{Patch: p.Name, N: n}
				out[id] = api.Vertex{Id: id, Line: l, Above: meant(p, o.A), Below: meant(p, o.B)}
				n++
			}
		}
	}
	for _, p := range set {
		for _, o := range p.Patch.Ops {
			if o.Kind == 4 || o.Kind == 5 {
				v := out[meant(p, o.A)]
				v.Deleted += map[int]int{4: 1, 5: -1}[o.Kind]
				out[v.Id] = v
			}
		}
	}
	return out
}

// pairsOf says in the chapter's words which edges a set has, by their ids.
func pairsOf(set []api.Named) map[[2]api.Id]bool {
	out, count := map[[2]api.Id]bool{}, map[[2]api.Id]int{}
	for _, p := range set {
		n := 0
		for _, o := range p.Patch.Ops {
			switch o.Kind {
			case 1:
				all := []api.Id{meant(p, o.A)}
				for range o.Lines {
					all = append(all, api.Id{Patch: p.Name, N: n})
					n++
				}
				all = append(all, meant(p, o.B))
				for i := range len(all) - 1 {
					out[[2]api.Id{all[i], all[i+1]}] = true
				}
			case 2:
				count[[2]api.Id{meant(p, o.A), meant(p, o.B)}]++
			case 3:
				count[[2]api.Id{meant(p, o.A), meant(p, o.B)}]--
			}
		}
	}
	for p, n := range count {
		if n > 0 {
			out[p] = true
		}
	}
	return out
}

// rises says the order of ids in the chapter's words.
func rises(a, b api.Id) int {
	return cmp.Or(cmp.Compare(a.Patch, b.Patch), cmp.Compare(a.N, b.N))
}

// graphOf is the graph of a set, in the chapter's words.
func graphOf(set []api.Named) api.Graph {
	var g api.Graph
	lines := linesOf(set)
	at := map[api.Id]int{}
	for i, id := range slices.SortedFunc(maps.Keys(lines), rises) {
		g.Vertices = append(g.Vertices, lines[id])
		at[id] = i
	}
	for p := range pairsOf(set) {
		g.Edges = append(g.Edges, [2]int{at[p[0]], at[p[1]]})
	}
	slices.SortFunc(g.Edges, func(a, b [2]int) int { return cmp.Or(cmp.Compare(a[0], b[0]), cmp.Compare(a[1], b[1])) })
	return g
}

// plain tells a set for a test's words.
func plain(set []api.Named) string {
	var out []string
	for _, p := range set {
		out = append(out, fmt.Sprintf("%q %q %v", p.Name, p.Patch.Deps, p.Patch.Ops))
	}
	return strings.Join(out, " | ")
}

// asTheWordsSay holds each call on the set, and on its graph, against them.
func asTheWordsSay(t *testing.T, set []api.Named) {
	t.Helper()
	was, fault := clone(set), faultOf(set)
	g, e := graph.Build(set)
	if fault == api.OK {
		if want := graphOf(set); e != nil || !same(g, want) {
			t.Errorf("%.300s: %.500s; %.500s; %v, want %.500s; %.500s", plain(set), vertices(g), edges(g), e, vertices(want), edges(want))
		}
	} else if !only(e, fault) || len(g.Vertices) != 0 || len(g.Edges) != 0 {
		t.Errorf("%.300s: %v, %v, want %v", plain(set), g, e, fault)
	}
	for i, v := range g.Vertices {
		if graph.Place(g, v.Id) != i || graph.Place(g, api.Id{Patch: v.Id.Patch, N: 1000}) != -1 || graph.Place(g, api.Id{Patch: v.Id.Patch, N: -1}) != -1 {
			t.Errorf("%.300s: Place(%s) = %d, want %d", plain(set), short(v.Id), graph.Place(g, v.Id), i)
		}
		if graph.Alive(g, i) != (i > 1 && v.Deleted <= 0) {
			t.Errorf("%.300s: Alive(%s) of %+d: %t", plain(set), short(v.Id), v.Deleted, graph.Alive(g, i))
		}
	}
	if !equal(set, was) {
		t.Errorf("%.300s is %.300s now", plain(was), plain(set))
	}
}

// allIn is P7.2: the graph of more has all vertices of that of set, with their lines.
func allIn(t *testing.T, set, more []api.Named) {
	t.Helper()
	g, e := graph.Build(set)
	h, f := graph.Build(more)
	if e != nil || f != nil {
		t.Errorf("%.300s, %.300s: %v, %v", plain(set), plain(more), e, f)
		return
	}
	for _, v := range g.Vertices {
		at := graph.Place(h, v.Id)
		if at < 0 || h.Vertices[at].Id != v.Id || h.Vertices[at].Line != v.Line || h.Vertices[at].Above != v.Above || h.Vertices[at].Below != v.Below {
			t.Errorf("%.300s: %s isn't in %.500s", plain(more), short(v.Id), vertices(h))
		}
	}
}

// without is the set without the patch at i.
func without(set []api.Named, i int) []api.Named {
	return slices.Concat(set[:i], set[i+1:])
}

// P7.2: sets that are known, without each of those that nobody needs, and each beginning of their order.
func TestOneMore(t *testing.T) {
	for _, s := range []string{
		"1", "1 +^,$:a", "1 +^,$:a | 2 +^,$:b | 3 +^,$:c",
		"1 +^,$:a,b | 21 -10 | 31 +10,11:x | 41 >10,11 | 51 /10,11 | 61 *10",
		"5 +^,$:a,b | 45 +50,51:c,d -50 | 345 +40,41:e -40 -41 | 2345 +30,41:f *40 | 12345 +^,20:x",
	} {
		set := setOf(s)
		for i := range set {
			if slices.Contains(order.Heads(set), set[i].Name) {
				allIn(t, without(set, i), set)
			}
			allIn(t, set[:i], set[:i+1])
			allIn(t, set[:i], set)
		}
	}
}

// maker makes sets of patches whose ops name lines that are there, but for mistakes of a hundred refs.
type maker struct {
	*rand.Rand
	mistakes int
	set      []api.Named
	made     []int
}

// refTo is a ref of the patch that is being made: so many lines it has, and it needs the patches at these places.
func (m *maker) refTo(own int, deps []int) api.Ref {
	if m.Intn(100) < m.mistakes {
		if len(deps) > 0 && m.Intn(3) > 0 {
			at := m.Intn(len(deps))
			return api.Ref{At: at, N: m.made[deps[at]] + m.Intn(2)}
		}
		return api.Ref{At: m.Intn(5) - 3, N: m.Intn(4) - 1}
	}
	switch k := m.Intn(10); {
	case k < 2:
		return api.Ref{At: -1, N: k}
	case k < 5 && own > 0:
		return api.Ref{At: -2, N: m.Intn(own)}
	case len(deps) > 0:
		at := m.Intn(len(deps))
		if n := m.made[deps[at]]; n > 0 {
			return api.Ref{At: at, N: m.Intn(n)}
		}
	}
	return api.Ref{At: -1, N: m.Intn(2)}
}

// op is a right one, where there is no mistake.
func (m *maker) op(own int, deps []int) (api.Op, bool) {
	o := api.Op{Kind: 1 + m.Intn(5), A: m.refTo(own, deps), B: m.refTo(own, deps)}
	if o.Kind == 1 {
		for range 1 + m.Intn(3) {
			o.Lines = append(o.Lines, string(rune('a'+m.Intn(26))))
		}
	}
	if o.Kind >= 4 {
		o.B = api.Ref{}
		return o, o.A.At >= 0
	}
	return o, o.A != o.B && o.A != api.Ref{At: -1, N: 1} && o.B != api.Ref{At: -1}
}

// patch needs some of those made ahead of it.
func (m *maker) patch(name string) {
	p := api.Named{Name: name}
	var deps []int
	for i := range m.set {
		if m.Intn(3) == 0 {
			deps = append(deps, i)
		}
	}
	slices.SortFunc(deps, func(i, j int) int { return strings.Compare(m.set[i].Name, m.set[j].Name) })
	for _, i := range deps {
		p.Patch.Deps = append(p.Patch.Deps, m.set[i].Name)
	}
	own := 0
	for range m.Intn(8) {
		if o, right := m.op(own, deps); right || m.Intn(100) < m.mistakes {
			p.Patch.Ops = append(p.Patch.Ops, o)
			own += len(o.Lines)
		}
	}
	m.set, m.made = append(m.set, p), append(m.made, own)
}

// anySet is one of up to n patches, told in any order.
func anySet(r *rand.Rand, n, mistakes int) []api.Named {
	m := &maker{Rand: r, mistakes: mistakes}
	for _, k := range r.Perm(16)[:r.Intn(n+1)] {
		m.patch(digit("0123456789abcdef"[k]))
	}
	r.Shuffle(len(m.set), func(i, j int) { m.set[i], m.set[j] = m.set[j], m.set[i] })
	return m.set
}

// P7.1, P7.2: thousands of sets, right ones and such as aren't; each without each patch that nobody needs.
func TestAnySets(t *testing.T) {
	r := rand.New(rand.NewSource(7))
	count := map[api.Errno]int{}
	for i := range 4000 {
		set := anySet(r, 8, []int{0, 0, 2, 10}[i%4])
		asTheWordsSay(t, set)
		back := slices.Clone(set)
		slices.Reverse(back)
		g, e := graph.Build(set)
		if h, f := graph.Build(back); e != f || !same(g, h) {
			t.Errorf("%.300s: %v, and back %v", plain(set), e, f)
		}
		count[faultOf(set)]++
		for i := range set {
			if e == nil && slices.Contains(order.Heads(set), set[i].Name) {
				allIn(t, without(set, i), set)
			}
		}
	}
	if count[api.OK] < 2000 || count[api.ErrPatch] < 300 || count[api.ErrVertex] < 100 {
		t.Error(count)
	}
	for range 100 {
		asTheWordsSay(t, anySet(r, 16, 0))
	}
}

// FuzzGraph reads a set as the tests tell it.
func FuzzGraph(f *testing.F) {
	for _, s := range []string{"", "1 +^,$:a,b", "1 +^,$:a,b | 21 +10,11:x -11 | 31 >^,11 /10,11 -11 *10", "1 +^,$:a | 21 -11", "12 | 21", "1 | 1", "1 ?.0,z9:q", "3 +^,$:a,b | 23 +30,31:c | 123 +30,20:d"} {
		f.Add(s)
	}
	f.Fuzz(func(t *testing.T, s string) {
		if len(s) > 300 {
			return
		}
		set := setOf(s)
		asTheWordsSay(t, set)
		g, e := graph.Build(set)
		slices.Reverse(set)
		if h, f := graph.Build(set); e != f || !same(g, h) {
			t.Errorf("%s: %v, and back %v", s, e, f)
		}
	})
}
