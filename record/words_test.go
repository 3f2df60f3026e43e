package record_test

import (
	"errors"
	"fmt"
	"slices"
	"strings"
	"testing"

	"tambour/api"
	"tambour/edits"
	"tambour/graph"
	"tambour/lines"
	"tambour/order"
	"tambour/patch"
	"tambour/record"
	"tambour/render"
)

// words tell what comes of a text in the chapter's words.
type words struct {
	set      []api.Named
	graph    api.Graph
	view     api.View
	comes    [][]bool // of each place: to which one comes from it
	old      []api.Row
	hunks    []api.Hunk
	elements []api.Row // a new line has no Id
	gone     []api.Id
	kept     []api.Id
}

// ways says in chapter 8's words from where one comes to where.
func ways(g api.Graph) [][]bool {
	n := len(g.Vertices)
	out := make([][]bool, n)
	for i := range out {
		out[i] = make([]bool, n)
	}
	for _, e := range g.Edges {
		out[e[0]][e[1]] = true
	}
	for through := range n {
		for from := range n {
			if !out[from][through] {
				continue
			}
			for to := range n {
				out[from][to] = out[from][to] || out[through][to]
			}
		}
	}
	return out
}

// vertex is the line's.
func (w *words) vertex(id api.Id) api.Vertex {
	return w.graph.Vertices[graph.Place(w.graph, id)]
}

// tangled says whether another line that is alive is of the line's knot.
func (w *words) tangled(id api.Id) bool {
	a := graph.Place(w.graph, id)
	for b := range w.graph.Vertices {
		if b != a && graph.Alive(w.graph, b) && w.comes[a][b] && w.comes[b][a] {
			return true
		}
	}
	return false
}

func (w *words) ahead(a, b api.Id) bool {
	from, to := graph.Place(w.graph, a), graph.Place(w.graph, b)
	return w.comes[from][to] && !w.comes[to][from]
}

// cuts says whether an edit cuts the old line i.
func (w *words) cuts(i int) bool {
	return slices.ContainsFunc(w.hunks, func(h api.Hunk) bool { return h.At <= i && i < h.At+h.Cut })
}

// sort parts the old lines, and tells the elements.
func (w *words) sort() {
	for i := range len(w.old) + 1 {
		for _, h := range w.hunks {
			if h.At == i {
				for _, text := range h.Put {
					w.elements = append(w.elements, api.Row{Text: text})
				}
			}
		}
		if i == len(w.old) {
			break
		}
		r := w.old[i]
		switch {
		case w.cuts(i):
			w.gone = append(w.gone, r.Id)
		case w.tangled(r.Id):
			w.gone = append(w.gone, r.Id)
			w.elements = append(w.elements, api.Row{Text: r.Text})
		default:
			w.kept = append(w.kept, r.Id)
			w.elements = append(w.elements, r)
		}
	}
}

// means is the id of what a ref of p means.
func means(p api.Named, r api.Ref) api.Id {
	switch {
	case r.At == -1:
		return api.Id{N: r.N}
	case r.At == -2:
		return api.Id{Patch: p.Name, N: r.N}
	}
	return api.Id{Patch: p.Patch.Deps[r.At], N: r.N}
}

// count is how many ops of that kind all patches have that mean the pair.
func (w *words) count(kind int, a, b api.Id) int {
	n := 0
	for _, p := range w.set {
		for _, o := range p.Patch.Ops {
			if o.Kind == kind && means(p, o.A) == a && means(p, o.B) == b {
				n++
			}
		}
	}
	return n
}

// deletes says whether p has a Delete op that means the line.
func deletes(p api.Named, id api.Id) bool {
	return slices.ContainsFunc(p.Patch.Ops, func(o api.Op) bool { return o.Kind == 4 && means(p, o.A) == id })
}

// deps are the names that the patch needs, but for the heads.
func (w *words) deps() []string {
	var out []string
	for i, id := range w.kept {
		if len(w.between(i)) > 0 || i > 0 && w.joins(i) > 0 {
			out = append(out, id.Patch)
		}
		if len(w.between(i+1)) > 0 || i+1 < len(w.kept) && w.joins(i+1) > 0 {
			out = append(out, id.Patch)
		}
	}
	for _, v := range w.gone {
		out = append(out, v.Patch)
		for _, x := range w.kept {
			if w.vertex(x).Above != v && w.vertex(x).Below != v {
				continue
			}
			out = append(out, x.Patch)
			for _, p := range w.set {
				if deletes(p, v) {
					out = append(out, p.Name)
				}
			}
		}
	}
	doubts, _ := render.Doubts(w.set)
	for _, d := range doubts {
		out = append(out, d.Patches...)
	}
	slices.Sort(out)
	return slices.Compact(out)
}

// between are the new lines ahead of the kept line i that are behind the one ahead of it; of len(kept): those at the end.
func (w *words) between(i int) []api.Row {
	var out []api.Row
	met := 0
	for _, e := range w.elements {
		if (e.Id != api.Id{}) {
			met++
		} else if met == i {
			out = append(out, e)
		}
	}
	return out
}

// joins are how many Joins the kept line i, and the one ahead of it, need.
func (w *words) joins(i int) int {
	a, b := w.kept[i-1], w.kept[i]
	if len(w.between(i)) > 0 || w.ahead(a, b) {
		return 0
	}
	return w.count(3, a, b) - w.count(2, a, b) + 1
}

// ref means the line in a patch with these Deps.
func ref(id api.Id, deps []string) api.Ref {
	if id.Patch == "" {
		return api.Ref{At: -1, N: id.N}
	}
	return api.Ref{At: slices.Index(deps, id.Patch), N: id.N}
}

// ops are those of the patch with these Deps.
func (w *words) ops(deps []string) []api.Op {
	var out []api.Op
	for _, id := range w.gone {
		for deleted := w.vertex(id).Deleted; deleted <= 0; deleted++ {
			out = append(out, api.Op{Kind: 4, A: ref(id, deps)})
		}
	}
	all := slices.Concat([]api.Id{{}}, w.kept, []api.Id{{N: 1}})
	for i := range len(all) - 1 {
		a, b := ref(all[i], deps), ref(all[i+1], deps)
		if fresh := w.between(i); len(fresh) > 0 {
			o := api.Op{Kind: 1, A: a, B: b}
			for _, r := range fresh {
				o.Lines = append(o.Lines, r.Text)
			}
			out = append(out, o)
		} else if i > 0 && i < len(w.kept) {
			for range w.joins(i) {
				out = append(out, api.Op{Kind: 2, A: a, B: b})
			}
		}
	}
	return out
}

// patch is the one that comes of it: ErrBig, if it isn't right.
func (w *words) patch(note string) (api.Patch, error) {
	deps := w.deps()
	p := api.Patch{Note: note, Deps: deps, Ops: w.ops(deps)}
	name, err := patch.Name(p)
	if err == nil && slices.ContainsFunc(w.set, func(q api.Named) bool { return q.Name == name }) {
		deps = slices.Concat(deps, order.Heads(w.set))
		slices.Sort(deps)
		p.Deps = slices.Compact(deps)
		p.Ops = w.ops(p.Deps)
	}
	if !patch.Right(p) {
		return api.Patch{}, api.ErrBig
	}
	return p, nil
}

// inWords is what Make is to answer.
func inWords(set []api.Named, text, note string) (*words, api.Patch, bool, error) {
	w := &words{set: set}
	if lines.Check(text) != nil || len(note) > 100 {
		return w, api.Patch{}, false, api.ErrBig
	}
	var err error
	if w.view, err = render.Show(set); err != nil {
		return w, api.Patch{}, false, err
	}
	if render.Text(w.view) == text {
		return w, api.Patch{}, false, nil
	}
	if slices.ContainsFunc(lines.Split(text), lines.Marker) {
		return w, api.Patch{}, false, api.ErrMarker
	}
	w.graph, _ = graph.Build(set)
	w.comes = ways(w.graph)
	var texts []string
	for _, r := range w.view.Rows {
		if !r.Marker {
			w.old, texts = append(w.old, r), append(texts, r.Text)
		}
	}
	w.hunks = edits.Diff(texts, lines.Split(text))
	w.sort()
	p, err := w.patch(note)
	return w, p, err == nil, err
}

// asTheWordsSay holds Make's answer against the chapter's words, and leaves the set as it was: what it answers of the set
// from its end on too. It tells the words, and whether there is a patch.
func asTheWordsSay(t *testing.T, set []api.Named, text, note string) (*words, bool) {
	t.Helper()
	was := clone(set)
	w, want, some, fault := inWords(set, text, note)
	number := api.OK
	errors.As(fault, &number)
	back := slices.Clone(set)
	slices.Reverse(back)
	for _, s := range [][]api.Named{set, back} {
		p, got, err := record.Make(s, text, note)
		if !samePatch(p, want) || got != some || !only(err, number) {
			t.Errorf("%.800s: %.300q: %.500s, %v, %v, want %.500s, %v, %v", plain(s), text, told(p), got, err, told(want), some, fault)
		}
	}
	if !equal(set, was) {
		t.Errorf("%.800s is %.800s now", plain(was), plain(set))
	}
	if some {
		showsTheText(t, set, want, text)
		asTheEdits(t, w, want)
	}
	return w, some
}

// showsTheText is P11.2: the set with the patch, under its name, shows just the text, without conflicts. (A set that tells
// another patch by that name can't have it too.)
func showsTheText(t *testing.T, set []api.Named, p api.Patch, text string) {
	t.Helper()
	name, _ := patch.Name(p)
	if slices.ContainsFunc(set, func(q api.Named) bool { return q.Name == name }) {
		return
	}
	v, err := render.Show(with(t, set, p))
	if err != nil || render.Text(v) != text || len(v.Conflicts) != 0 || len(v.Rows) != len(lines.Split(text)) {
		t.Errorf("%.800s with %.500s: %.300q, %v, %v, want %.300q", plain(set), told(p), render.Text(v), v.Conflicts, err, text)
	}
}

// asTheEdits is P11.3: without conflicts ahead there is a New op for each edit that puts lines, with just these, there are
// Delete ops of each line that an edit cuts, so many as it takes, and no others; and nothing is to be joined.
func asTheEdits(t *testing.T, w *words, p api.Patch) {
	t.Helper()
	if len(w.view.Conflicts) > 0 {
		return
	}
	var want, got []string
	for _, h := range w.hunks {
		for _, r := range w.old[h.At : h.At+h.Cut] {
			want = append(want, fmt.Sprint("delete ", r.Id, 1-w.vertex(r.Id).Deleted))
		}
	}
	for _, h := range w.hunks {
		if len(h.Put) > 0 {
			want = append(want, fmt.Sprintf("new %q", h.Put))
		}
	}
	for i := 0; i < len(p.Ops); {
		o, n := p.Ops[i], 0
		for i < len(p.Ops) && p.Ops[i].Kind == o.Kind && p.Ops[i].A == o.A && p.Ops[i].B == o.B {
			i, n = i+1, n+1
		}
		switch {
		case o.Kind == 4:
			got = append(got, fmt.Sprint("delete ", means(api.Named{Patch: p}, o.A), n))
		case o.Kind == 1 && n == 1:
			got = append(got, fmt.Sprintf("new %q", o.Lines))
		default:
			got = append(got, fmt.Sprintf("%+v", o))
		}
	}
	if !slices.Equal(got, want) {
		t.Errorf("%.800s: %s, want %s", plain(w.set), strings.Join(got, ", "), strings.Join(want, ", "))
	}
}
