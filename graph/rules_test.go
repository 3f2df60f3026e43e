package graph_test

import (
	"fmt"
	"slices"
	"strings"
	"sync"
	"testing"
	"time"

	"tambour/api"
	"tambour/graph"
)

// clone is a set in memory of its own.
func clone(set []api.Named) []api.Named {
	out := slices.Clone(set)
	for i, p := range out {
		out[i].Patch.Deps = slices.Clone(p.Patch.Deps)
		out[i].Patch.Ops = slices.Clone(p.Patch.Ops)
		for j, o := range p.Patch.Ops {
			out[i].Patch.Ops[j].Lines = slices.Clone(o.Lines)
		}
	}
	return out
}

// equal holds sets against each other.
func equal(a, b []api.Named) bool {
	return slices.EqualFunc(a, b, func(p, q api.Named) bool {
		return p.Name == q.Name && p.Patch.Note == q.Patch.Note && slices.Equal(p.Patch.Deps, q.Patch.Deps) &&
			slices.EqualFunc(p.Patch.Ops, q.Patch.Ops, func(o, x api.Op) bool {
				return o.Kind == x.Kind && o.A == x.A && o.B == x.B && slices.Equal(o.Lines, x.Lines)
			})
	})
}

// unlike are sets of each kind: with a graph, and with each fault.
func unlike() []string {
	return []string{
		"", "1", "1 +^,$:a,b", "3 +^,$:a,b | 23 +30,31:c -30 | 123 +30,20:d >^,20 *31 | 4 +^,$:x /^,.0 >^,$",
		"2 +^,$:a | 1 +^,$:b | 1", "34 | 2 +^,$:a | 1", "2 | 1 +^,^:a", "2 +^,$:a | 12 -21 +^,$:b",
	}
}

// roomy is a set each list of which has room behind it, and what stands in that room too.
func roomy(set []api.Named) (in, whole []api.Named) {
	whole = append(clone(set), setOf("9 +^,$:room | 8")...)
	in = slices.Clone(whole)
	for i, p := range whole {
		for j, o := range p.Patch.Ops {
			lines := append(o.Lines, "room", "more")
			p.Patch.Ops[j].Lines, o.Lines = lines, lines[:len(lines)-2]
			in[i].Patch.Ops = append(slices.Clone(in[i].Patch.Ops[:j]), append([]api.Op{o}, in[i].Patch.Ops[j+1:]...)...)
		}
		n := len(p.Patch.Ops)
		ops := append(slices.Clone(in[i].Patch.Ops), opOf("+^,$:room", ""), opOf("-10", "1"))
		deps := append(slices.Clone(p.Patch.Deps), "room")
		whole[i].Patch.Ops, in[i].Patch.Ops = ops, ops[:n]
		whole[i].Patch.Deps, in[i].Patch.Deps = deps, deps[:len(deps)-1]
	}
	return in[:len(set)], whole
}

// roomyGraph is a graph with room behind its lists, and what stands in that room too.
func roomyGraph(g api.Graph) (in, whole api.Graph) {
	whole = api.Graph{Vertices: append(slices.Clone(g.Vertices), api.Vertex{Id: api.Id{Patch: "room"}}), Edges: append(slices.Clone(g.Edges), [2]int{7, 7})}
	return api.Graph{Vertices: whole.Vertices[:len(g.Vertices)], Edges: whole.Edges[:len(g.Edges)]}, whole
}

// R4: what is handed in is not changed, the room behind it neither.
func TestArgumentsUnchanged(t *testing.T) {
	for _, s := range unlike() {
		set, whole := roomy(setOf(s))
		all := set[:cap(set)]
		was, wasWhole := clone(all), clone(whole)
		for range 3 {
			built, _ := graph.Build(set)
			if !equal(all, was) || !equal(whole, wasWhole) || !equal(set, setOf(s)) {
				t.Errorf("Build(%s): now %s", s, plain(whole))
			}
			g, behind := roomyGraph(built)
			wasGraph := api.Graph{Vertices: slices.Clone(behind.Vertices), Edges: slices.Clone(behind.Edges)}
			for i := -2; i < len(g.Vertices)+2; i++ {
				graph.Alive(g, i)
			}
			for _, v := range wasGraph.Vertices {
				graph.Place(g, v.Id)
			}
			if graph.Place(g, api.Id{Patch: "room"}) != -1 || graph.Alive(g, len(g.Vertices)) || !same(behind, wasGraph) {
				t.Errorf("%s: Place, Alive: now %v", s, behind)
			}
		}
	}
}

// told tells all that Build answers.
func told(set []api.Named) string {
	g, e := graph.Build(set)
	return fmt.Sprintf("%s; %s; %v", vertices(g), edges(g), e)
}

// R4: what is answered is memory of its own: whoever writes to it, and behind it, changes neither what was handed in nor
// another answer.
func TestAnswersApart(t *testing.T) {
	for _, s := range unlike() {
		set := setOf(s)
		want := told(set)
		first, _ := graph.Build(set)
		second, _ := graph.Build(set)
		kept := api.Graph{Vertices: slices.Clone(second.Vertices), Edges: slices.Clone(second.Edges)}
		for i := range first.Vertices[:cap(first.Vertices)] {
			first.Vertices[:cap(first.Vertices)][i] = api.Vertex{Line: "spoilt", Deleted: 9}
		}
		for i := range first.Edges[:cap(first.Edges)] {
			first.Edges[:cap(first.Edges)][i] = [2]int{-9, -9}
		}
		if !same(second, kept) || told(set) != want || !equal(set, setOf(s)) {
			t.Errorf("%s: %s, once an answer is spoilt: %s", s, want, told(set))
		}
	}
}

// R4, R7: what is handed in is not kept: an answer stays, whatever becomes of it, and the next one hangs on its own arguments.
func TestNotKept(t *testing.T) {
	set := setOf("1 +^,$:a,b | 21 -10 >^,11")
	g, _ := graph.Build(set)
	v, e := vertices(g), edges(g)
	set[0].Patch.Ops[0].Lines[0] = "z"
	set[1].Patch.Ops[0].A.N = 1
	set[1].Patch.Ops[1].B.N = 0
	set[1].Name = digit('5')
	if vertices(g) != v || edges(g) != e {
		t.Errorf("%s, %s, and then %s, %s", v, e, vertices(g), edges(g))
	}
	if got := told(set); got != "^ $ 10=z(^,$) 11=b(^,$)+1; ^>10 10>11 11>$; <nil>" {
		t.Error(got)
	}
}

// R7: one answer, however often it is asked for, whatever was asked ahead, and by however many at once.
func TestOneAnswer(t *testing.T) {
	want := map[string]string{}
	shared := map[string][]api.Named{}
	for _, s := range unlike() {
		want[s], shared[s] = told(setOf(s)), setOf(s)
	}
	var all sync.WaitGroup
	for range 8 {
		all.Go(func() {
			for range 20 {
				for _, s := range unlike() {
					if got, again := told(setOf(s)), told(shared[s]); got != want[s] || again != want[s] {
						t.Errorf("%s: %s, and then %s, %s", s, want[s], got, again)
					}
				}
			}
		})
	}
	all.Wait()
}

// P0: patches of nothing, of kinds, refs and names that can't be.
func TestAnything(t *testing.T) {
	far := []int{-1 << 63, -3, -2, -1, 0, 1, 2, 64, 299, 300, 1 << 32, 1<<63 - 1}
	var refs []api.Ref
	for _, at := range far {
		for _, n := range far {
			refs = append(refs, api.Ref{At: at, N: n})
		}
	}
	for kind := -1; kind < 8; kind++ {
		for i, r := range refs {
			for _, q := range []api.Ref{{}, {At: -1, N: 1}, {At: -2}, refs[(i*7+5)%len(refs)]} {
				for _, lines := range [][]string{nil, {}, {"x"}} {
					set := setOf("1 +^,$:a | 21 +^,$:b")
					set[1].Patch.Ops = append(set[1].Patch.Ops, api.Op{Kind: kind, A: r, B: q, Lines: lines})
					asTheWordsSay(t, set)
					set[1].Patch.Ops[1].A, set[1].Patch.Ops[1].B = q, r
					asTheWordsSay(t, set)
				}
			}
		}
	}
	for _, set := range [][]api.Named{{{}}, {{}, {}}, make([]api.Named, 1000), {{Name: "a", Patch: api.Patch{Deps: make([]string, 100)}}}, {{Name: "a", Patch: api.Patch{Ops: make([]api.Op, 100)}}}} {
		asTheWordsSay(t, set)
	}
}

// big holds Build on a big set, told as it is and back, against how many vertices and edges there are, and some of them.
func big(t *testing.T, why string, set []api.Named, vertices, edges int) api.Graph {
	t.Helper()
	begun := time.Now()
	g, e := graph.Build(set)
	if e != nil || len(g.Vertices) != vertices || len(g.Edges) != edges {
		t.Errorf("%s: %d, %d, %v, want %d, %d", why, len(g.Vertices), len(g.Edges), e, vertices, edges)
	}
	back := slices.Clone(set)
	slices.Reverse(back)
	if h, e := graph.Build(back); e != nil || !same(g, h) {
		t.Errorf("%s: not the same from its end on: %v", why, e)
	}
	for i, v := range g.Vertices {
		if graph.Place(g, v.Id) != i {
			t.Errorf("%s: Place of %d: %d", why, i, graph.Place(g, v.Id))
		}
	}
	if d := time.Since(begun); d > 20*time.Second {
		t.Errorf("%s: %v", why, d)
	}
	return g
}

// P7.1, P0: sets with many patches, many lines, and many ops.
func TestBig(t *testing.T) {
	number := func(i int) string { return fmt.Sprintf("%064x", i) }
	chain := setOf("0 +^,$:a")
	chain[0].Name = number(0)
	for i := 1; i < 50000; i++ {
		chain = append(chain, api.Named{Name: number(i), Patch: api.Patch{Deps: []string{number(i - 1)}, Ops: []api.Op{opOf("+00,$:b", "0"), opOf("-00", "0")}}})
	}
	g := big(t, "a chain", chain, 50002, 100000)
	if !graph.Alive(g, 50001) || graph.Alive(g, 50000) || g.Vertices[50000].Above.Patch != number(49997) {
		t.Error("a chain: its last lines")
	}
	var full []api.Named
	for i := range 300 {
		full = append(full, api.Named{Name: number(i), Patch: setOf("1 +^,$:" + strings.Repeat("x,", 299) + "x")[0].Patch})
	}
	big(t, "many lines", full, 90002, 90300)
	first := setOf("0 +^,$:" + strings.Repeat("x,", 299) + "x")
	var ops []api.Op
	for i := range 300 {
		ops = append(ops, opOf(fmt.Sprintf("-0%d", i), "0"))
		if i%3 == 0 {
			ops = append(ops, opOf(fmt.Sprintf(">0%d,0%d", i, 299-i), "0"))
		}
	}
	for i := 1; i < 300; i++ {
		first = append(first, api.Named{Name: number(i), Patch: api.Patch{Deps: []string{digit('0')}, Ops: ops}})
	}
	g = big(t, "many ops", first, 302, 301+100)
	for _, v := range g.Vertices[2:] {
		if v.Deleted != 299 {
			t.Errorf("many ops: %+d", v.Deleted)
		}
	}
}
