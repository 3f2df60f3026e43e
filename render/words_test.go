package render_test

import (
	"fmt"
	"math/rand"
	"slices"
	"strings"
	"testing"

	"tambour/api"
	"tambour/graph"
	"tambour/lines"
	"tambour/order"
	"tambour/render"
)

// words are a set's view and doubts in the chapter's words.
type words struct {
	set   []api.Named
	graph api.Graph
	comes [][]bool // of each place: to which one comes from it
	view  api.View
}

// ways says in chapter 8's words from where one comes to where.
func ways(g api.Graph) [][]bool {
	n := len(g.Vertices)
	out := make([][]bool, n)
	for i := range out {
		out[i] = make([]bool, n)
	}
	for _, e := range g.Edges {
		out[e[0]][e[1]] = true
	}
	for through := range n {
		for from := range n {
			if !out[from][through] {
				continue
			}
			for to := range n {
				out[from][to] = out[from][to] || out[through][to]
			}
		}
	}
	return out
}

func (w *words) sameKnot(a, b int) bool {
	return a == b || w.comes[a][b] && w.comes[b][a]
}

func (w *words) ahead(a, b int) bool {
	return w.comes[a][b] && !w.comes[b][a]
}

func (w *words) comparable(a, b int) bool {
	return w.sameKnot(a, b) || w.ahead(a, b) || w.ahead(b, a)
}

// items are the lines that are alive of each knot, by their places.
func (w *words) items() map[int][]int {
	out := map[int][]int{}
	for i := range w.graph.Vertices {
		if !graph.Alive(w.graph, i) {
			continue
		}
		first := i
		for f := range out {
			if w.sameKnot(f, i) {
				first = f
			}
		}
		out[first] = append(out[first], i)
	}
	return out
}

// line tells things in chapter 9's order.
func (w *words) line(l []int) []int {
	var out []int
	for len(out) < len(l) {
		for _, a := range slices.Sorted(slices.Values(l)) {
			waits := slices.ContainsFunc(l, func(b int) bool { return w.ahead(b, a) && !slices.Contains(out, b) })
			if !waits && !slices.Contains(out, a) {
				out = append(out, a)
				break
			}
		}
	}
	return out
}

// runs are chapter 9's.
func (w *words) runs(l []int) [][]int {
	var out [][]int
	open := false
	for _, a := range w.line(l) {
		single := !slices.ContainsFunc(l, func(b int) bool { return !w.comparable(a, b) })
		if single || !open {
			out = append(out, nil)
		}
		out[len(out)-1] = append(out[len(out)-1], a)
		open = !single
	}
	return out
}

// sides are chapter 9's.
func (w *words) sides(l []int) [][]int {
	side := map[int]int{}
	for _, a := range l {
		side[a] = a
	}
	for range l {
		for _, a := range l {
			for _, b := range l {
				if w.comparable(a, b) {
					side[a] = min(side[a], side[b])
				}
			}
		}
	}
	var out [][]int
	for _, least := range slices.Sorted(slices.Values(l)) {
		var all []int
		for _, a := range w.line(l) {
			if side[a] == least {
				all = append(all, a)
			}
		}
		if len(all) > 0 {
			out = append(out, all)
		}
	}
	return out
}

// deletes says whether p has a Delete op that means that line.
func deletes(p api.Named, id api.Id) bool {
	return slices.ContainsFunc(p.Patch.Ops, func(o api.Op) bool {
		return o.Kind == 4 && id == api.Id{Patch: p.Patch.Deps[o.A.At], N: o.A.N}
	})
}

// doubts are the chapter's.
func (w *words) doubts() []api.Doubt {
	past := map[string][]string{}
	for _, p := range w.set {
		past[p.Name] = order.Past(w.set, p.Name)
	}
	var out []api.Doubt
	for i, x := range w.graph.Vertices {
		if !graph.Alive(w.graph, i) {
			continue
		}
		q := x.Id.Patch
		var names []string
		for _, p := range w.set {
			beside := false
			for _, id := range []api.Id{x.Above, x.Below} {
				beside = beside || id.Patch != "" && !graph.Alive(w.graph, graph.Place(w.graph, id)) && deletes(p, id)
			}
			both := slices.ContainsFunc(w.set, func(r api.Named) bool {
				return slices.Contains(past[r.Name], p.Name) && slices.Contains(past[r.Name], q)
			})
			if beside && p.Name != q && !slices.Contains(past[q], p.Name) && !slices.Contains(past[p.Name], q) && !both {
				names = append(names, p.Name)
			}
		}
		if len(names) > 0 {
			out = append(out, api.Doubt{Line: x.Id, Patches: slices.Sorted(slices.Values(append(names, q)))})
		}
	}
	return out
}

// conflict tells a conflict's rows, and notes it.
func (w *words) conflict(kind string, sides ...[]int) {
	c := api.Conflict{Kind: kind}
	for i, side := range sides {
		w.view.Rows = append(w.view.Rows, api.Row{Text: []string{"=======", ">>>>>>> " + kind}[1-min(i, 1)], Marker: true})
		for _, place := range side {
			v := w.graph.Vertices[place]
			w.view.Rows = append(w.view.Rows, api.Row{Text: v.Line, Id: v.Id})
			c.Lines = append(c.Lines, v.Id)
		}
	}
	w.view.Rows = append(w.view.Rows, api.Row{Text: "<<<<<<<", Marker: true})
	w.view.Conflicts = append(w.view.Conflicts, c)
}

// show writes the view.
func (w *words) show() {
	items := w.items()
	var firsts []int
	for f := range items {
		firsts = append(firsts, f)
	}
	doubts := w.doubts()
	for _, run := range w.runs(firsts) {
		first := w.graph.Vertices[run[0]]
		switch {
		case len(run) > 1:
			var sides [][]int
			for _, side := range w.sides(run) {
				var all []int
				for _, f := range side {
					all = append(all, items[f]...)
				}
				sides = append(sides, all)
			}
			w.conflict("order", sides...)
		case len(items[run[0]]) > 1:
			w.conflict("tangled", items[run[0]])
		case slices.ContainsFunc(doubts, func(d api.Doubt) bool { return d.Line == first.Id }):
			w.conflict("doubtful", run)
		default:
			w.view.Rows = append(w.view.Rows, api.Row{Text: first.Line, Id: first.Id})
		}
	}
}

// plain tells a set for a test's words.
func plain(set []api.Named) string {
	var out []string
	for _, p := range set {
		told := brief(p.Name)
		for _, d := range p.Patch.Deps {
			told += brief(d)
		}
		out = append(out, told+fmt.Sprint(p.Patch.Ops))
	}
	return strings.Join(out, " | ")
}

// toldOnce is P10.2: each line that is alive is told once, and no other; without conflicts no row is a marker.
func toldOnce(t *testing.T, set []api.Named, v api.View) {
	t.Helper()
	g, _ := graph.Build(set)
	left := map[api.Id]string{}
	for i, x := range g.Vertices {
		if graph.Alive(g, i) {
			left[x.Id] = x.Line
		}
	}
	for _, r := range v.Rows {
		line, alive := left[r.Id]
		if r.Marker == alive || r.Marker != lines.Marker(r.Text) || alive && line != r.Text || r.Marker && (len(v.Conflicts) == 0 || r.Id != api.Id{}) {
			t.Errorf("%.500s: %+v of %.500s; %.500s", plain(set), r, rows(v), conflicts(v))
			return
		}
		delete(left, r.Id)
	}
	if len(left) > 0 {
		t.Errorf("%.500s: %d aren't in %.500s", plain(set), len(left), rows(v))
	}
}

// asTheWordsSay holds each call on the set against the chapter's words, and leaves the set as it was.
func asTheWordsSay(t *testing.T, set []api.Named) *words {
	t.Helper()
	was := clone(set)
	g, fault := graph.Build(set)
	v, e := render.Show(set)
	l, f := render.Doubts(set)
	w := &words{set: set, graph: g}
	if fault == nil {
		w.comes = ways(g)
		w.show()
		toldOnce(t, set, v)
		if want := w.doubts(); !sameDoubts(l, want) {
			t.Errorf("%.500s: %.500s, want %.500s", plain(set), doubts(l), doubts(want))
		}
	} else if len(l) != 0 {
		t.Errorf("%.500s: %.500s beside %v", plain(set), doubts(l), fault)
	}
	if e != fault || f != fault || !sameView(v, w.view) {
		t.Errorf("%.500s: %.500s; %.500s; %v, %v, want %.500s; %.500s; %v", plain(set), rows(v), conflicts(v), e, f, rows(w.view), conflicts(w.view), fault)
	}
	var texts []string
	for _, r := range v.Rows {
		texts = append(texts, r.Text)
	}
	if s := render.Text(v); s != strings.Join(texts, "\n") {
		t.Errorf("%.500s: %.500q, want %.500q", plain(set), s, texts)
	}
	if !equal(set, was) {
		t.Errorf("%.500s is %.500s now", plain(was), plain(set))
	}
	return w
}

// maker makes sets of patches whose ops name lines that are there, but for mistakes of a hundred refs.
type maker struct {
	*rand.Rand
	mistakes int
	needs    int // of a hundred patches so many are needed by a new one
	set      []api.Named
	made     []int
}

// refTo is a ref of the patch that is being made: so many lines it has, and it needs the patches at these places.
func (m *maker) refTo(own int, deps []int) api.Ref {
	if m.Intn(100) < m.mistakes {
		return api.Ref{At: m.Intn(6) - 3, N: m.Intn(6) - 1}
	}
	switch k := m.Intn(12); {
	case k < 2:
		return api.Ref{At: -1, N: k}
	case k < 4 && own > 0:
		return api.Ref{At: -2, N: m.Intn(own)}
	case len(deps) > 0:
		at := m.Intn(len(deps))
		if n := m.made[deps[at]]; n > 0 {
			return api.Ref{At: at, N: m.Intn(n)}
		}
	}
	return api.Ref{At: -1, N: m.Intn(2)}
}

// op is a right one, where there is no mistake: the most of them put lines, or delete one.
func (m *maker) op(own int, deps []int) (api.Op, bool) {
	o := api.Op{Kind: []int{1, 1, 1, 2, 3, 4, 4, 5}[m.Intn(8)], A: m.refTo(own, deps), B: m.refTo(own, deps)}
	if o.Kind == 1 {
		for range 1 + m.Intn(3) {
			o.Lines = append(o.Lines, string(rune('a'+m.Intn(26))))
		}
	}
	if o.Kind >= 4 {
		o.B = api.Ref{}
		return o, o.A.At >= 0
	}
	return o, o.A != o.B && o.A != api.Ref{At: -1, N: 1} && o.B != api.Ref{At: -1}
}

// patch needs some of those made ahead of it, the first one most often.
func (m *maker) patch(name string) {
	p := api.Named{Name: name}
	var deps []int
	for i := range m.set {
		if m.Intn(100) < m.needs || i == 0 && m.Intn(5) > 0 {
			deps = append(deps, i)
		}
	}
	slices.SortFunc(deps, func(i, j int) int { return strings.Compare(m.set[i].Name, m.set[j].Name) })
	for _, i := range deps {
		p.Patch.Deps = append(p.Patch.Deps, m.set[i].Name)
	}
	own := 0
	if len(m.set) == 0 {
		p.Patch.Ops = []api.Op{opOf("+^,$:A,B,C,D", "")}
		own = 4
	}
	for range m.Intn(6) {
		if o, right := m.op(own, deps); right || m.Intn(100) < m.mistakes {
			p.Patch.Ops = append(p.Patch.Ops, o)
			own += len(o.Lines)
		}
	}
	m.set, m.made = append(m.set, p), append(m.made, own)
}

// anySet is one of up to n patches, told in any order.
func anySet(r *rand.Rand, n, needs, mistakes int) []api.Named {
	m := &maker{Rand: r, mistakes: mistakes, needs: needs}
	for _, k := range r.Perm(16)[:r.Intn(n+1)] {
		m.patch(digit("0123456789abcdef"[k]))
	}
	r.Shuffle(len(m.set), func(i, j int) { m.set[i], m.set[j] = m.set[j], m.set[i] })
	return m.set
}

// sameBack holds a set that is told from its end on against the set (P10.1).
func sameBack(t *testing.T, set []api.Named) {
	t.Helper()
	back := slices.Clone(set)
	slices.Reverse(back)
	v, e := render.Show(set)
	w, f := render.Show(back)
	if e != f || !sameView(v, w) {
		t.Errorf("%.500s: %.500s; %.500s; %v, and back %.500s; %.500s; %v", plain(set), rows(v), conflicts(v), e, rows(w), conflicts(w), f)
	}
	l, e := render.Doubts(set)
	m, f := render.Doubts(back)
	if e != f || !sameDoubts(l, m) {
		t.Errorf("%.500s: %.500s, %v, and back %.500s, %v", plain(set), doubts(l), e, doubts(m), f)
	}
}

// P10.1, P10.2: thousands of sets with conflicts of each kind, and such as graph.Build refuses.
func TestAnySets(t *testing.T) {
	r := rand.New(rand.NewSource(10))
	count := map[string]int{}
	for i := range 4000 {
		set := anySet(r, []int{3, 5, 8, 10}[i%4], []int{5, 20, 40}[i%3], []int{0, 0, 0, 0, 3}[i%5])
		w := asTheWordsSay(t, set)
		sameBack(t, set)
		if w.comes == nil {
			count["refused"]++
			continue
		}
		count["doubts"] += len(w.doubts())
		if len(w.view.Conflicts) == 0 {
			count["plain"]++
		}
		for _, c := range w.view.Conflicts {
			count[c.Kind]++
		}
	}
	for _, kind := range []string{"order", "tangled", "doubtful", "doubts", "plain", "refused"} {
		if count[kind] < 100 {
			t.Errorf("%s: %d", kind, count[kind])
		}
	}
}

// P10.1, P10.2: many patches at the lines of one text: at each line some put others, some delete it, some join two.
func TestAnyTexts(t *testing.T) {
	r := rand.New(rand.NewSource(11))
	count := map[string]int{}
	for range 300 {
		set := setOf("0 +^,$:a,b,c,d,e,f,g,h")
		for _, k := range r.Perm(15)[:r.Intn(8)] {
			p := api.Named{Name: digit("123456789abcdef"[k]), Patch: api.Patch{Deps: []string{digit('0')}}}
			for i := range 7 {
				switch r.Intn(10) {
				case 0, 1:
					p.Patch.Ops = append(p.Patch.Ops, opOf(fmt.Sprintf("+0%d,0%d:%c", i, i+1, 'p'+k%10), "0"))
				case 2:
					p.Patch.Ops = append(p.Patch.Ops, opOf(fmt.Sprintf("-0%d", i), "0"))
				case 3:
					if r.Intn(5) == 0 {
						p.Patch.Ops = append(p.Patch.Ops, opOf(fmt.Sprintf(">0%d,0%d", i+1, i), "0"))
					}
				}
			}
			set = append(set, p)
		}
		r.Shuffle(len(set), func(i, j int) { set[i], set[j] = set[j], set[i] })
		w := asTheWordsSay(t, set)
		sameBack(t, set)
		kinds := map[string]int{}
		for _, c := range w.view.Conflicts {
			kinds[c.Kind]++
			count[c.Kind]++
		}
		count[fmt.Sprint(len(kinds), " kinds")]++
	}
	if count["order"] < 100 || count["tangled"] < 100 || count["doubtful"] < 100 || count["3 kinds"] < 10 || count["0 kinds"] < 10 {
		t.Error(count)
	}
}

// FuzzRender reads a set as the tests tell it.
func FuzzRender(f *testing.F) {
	for _, s := range []string{"", "1 +^,$:a,b", "2 +^,$:x | 3 +^,$:y", "1 +^,$:a,b | 21 +10,11:x -11 | 31 >11,10 /10,11 -10 *10", "1 +^,$:a,b | 21 +10,11:x | 31 -10 | 423", "1 | 1", "12 | 21", "1 ?.0,z9:q", "1 | 21 -10"} {
		f.Add(s)
	}
	f.Fuzz(func(t *testing.T, s string) {
		if len(s) > 300 {
			return
		}
		set := setOf(s)
		asTheWordsSay(t, set)
		sameBack(t, set)
	})
}
