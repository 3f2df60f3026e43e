package record_test

import (
	"fmt"
	"math/rand"
	"slices"
	"strings"
	"testing"

	"tambour/api"
	"tambour/graph"
	"tambour/patch"
	"tambour/poset"
	"tambour/record"
	"tambour/render"
)

// show is what a set shows.
func show(t *testing.T, set []api.Named) api.View {
	t.Helper()
	v, err := render.Show(set)
	if err != nil {
		t.Fatalf("%.500s: %v", plain(set), err)
	}
	return v
}

// shownLines are the lines of what is shown, without its markers.
func shownLines(v api.View) []string {
	var out []string
	for _, r := range v.Rows {
		if !r.Marker {
			out = append(out, r.Text)
		}
	}
	return out
}

// undo is the set with the inverse of its last patch; false, if that inverse is too big.
func undo(t *testing.T, set []api.Named) ([]api.Named, bool) {
	t.Helper()
	p, err := patch.Inverse(set[len(set)-1].Patch)
	if err != nil {
		return nil, false
	}
	return with(t, set, p), true
}

// P11.2: what one records is shown, what one takes back isn't, and what one takes back of that is.
func TestHistory(t *testing.T) {
	texts := []string{"a", "a\nb", "b\na", "", "\n", "b", "a\nb\nc\nd\ne\nf", "f\ne\nd\nc\nb\na", "a\na\na", "x\na\ny\na\nz\na", "a"}
	var set []api.Named
	for i, text := range texts {
		was := shownLines(show(t, set))
		set = put(t, set, text)
		if got := render.Text(show(t, set)); got != text {
			t.Errorf("%d: %q, want %q", i, got, text)
		}
		back, _ := undo(t, set)
		if got := shownLines(show(t, back)); !slices.Equal(got, was) {
			t.Errorf("%d taken back: %q, want %q", i, got, was)
		}
		again, _ := undo(t, back)
		if got := render.Text(show(t, again)); got != text {
			t.Errorf("%d taken back twice: %q, want %q", i, got, text)
		}
	}
	if n := len(set); n != len(texts) || len(set[n-1].Patch.Deps) == 0 {
		t.Errorf("%d patches, the last one %s", n, told(set[n-1].Patch))
	}
}

// P11.2: a conflict of each kind, settled by each text of its lines, and by such as have others.
func TestSettled(t *testing.T) {
	for _, c := range []struct{ why, set, kind string }{
		{"order", "2 +^,$:x | 3 +^,$:y", "order"},
		{"order of three", "1 +^,$:x | 2 +^,$:y | 3 +^,$:z", "order"},
		{"order between lines", "1 +^,$:a,b | 21 +10,11:x | 31 +10,11:y", "order"},
		{"a run that one line can't part", "1 +^,$:a +^,$:b +^,$:c +^,$:d >.0,.2 >.1,.2 >.1,.3", "order"},
		{"tangled", "1 +^,$:a,b >.1,.0", "tangled"},
		{"tangled between lines", "1 +^,$:a,b,c,d | 21 >12,11", "tangled"},
		{"settled in unlike orders", "1 +^,$:x | 2 +^,$:y | 312 >10,20 | 412 >20,10", "tangled"},
		{"tangled in a run", "1 +^,$:a,b >.1,.0 | 2 +^,$:x", "order"},
		{"doubtful", "1 +^,$:a,b | 21 +10,11:x | 31 -10", "doubtful"},
		{"doubtful by what both have deleted", "1 +^,$:a,b | 21 +10,11:x | 31 -10 -11", "doubtful"},
		{"doubts in a run", "1 +^,$:a,b | 21 +10,11:x | 31 -10 | 41 +10,11:y", "order"},
	} {
		set := setOf(c.set)
		v := show(t, set)
		if len(v.Conflicts) != 1 || v.Conflicts[0].Kind != c.kind {
			t.Errorf("%s: %v", c.why, v.Conflicts)
		}
		own := shownLines(v)
		for _, l := range orders(own) {
			put(t, set, strings.Join(l, "\n"))
			put(t, set, strings.Join(append(l, "new"), "\n"))
			put(t, set, strings.Join(slices.Concat([]string{"new"}, l[:1], l), "\n"))
			put(t, set, strings.Join(l[1:], "\n"))
		}
	}
}

// orders are all orders of up to four lines.
func orders(l []string) [][]string {
	if len(l) <= 1 {
		return [][]string{l}
	}
	var out [][]string
	for i, s := range l {
		for _, rest := range orders(slices.Concat(l[:i], l[i+1:])) {
			out = append(out, slices.Concat([]string{s}, rest))
		}
	}
	return out
}

// worked is a text that somebody has worked at: lines moved, doubled, left out, put.
func worked(r *rand.Rand, l []string) string {
	l = slices.Clone(l)
	for range r.Intn(5) {
		at := r.Intn(len(l) + 1)
		switch k := r.Intn(6); {
		case k < 2 || len(l) == 0:
			l = slices.Insert(l, at, string(rune('a'+r.Intn(26))))
		case k == 2:
			l = slices.Insert(l, at, l[r.Intn(len(l))])
		case k == 3:
			s := l[r.Intn(len(l))]
			i := slices.Index(l, s)
			l = slices.Delete(l, i, i+1)
			l = slices.Insert(l, min(at, len(l)), s)
		default:
			at = r.Intn(len(l))
			l = slices.Delete(l, at, min(len(l), at+1+r.Intn(2)))
		}
	}
	if r.Intn(10) == 0 {
		r.Shuffle(len(l), func(i, j int) { l[i], l[j] = l[j], l[i] })
	}
	return strings.Join(l, "\n")
}

// maker makes sets of patches whose ops name lines that are there, but for mistakes of a hundred refs.
type maker struct {
	*rand.Rand
	mistakes int
	needs    int // of a hundred patches so many are needed by a new one
	set      []api.Named
	made     []int
}

// refTo is a ref of the patch that is being made: so many lines it has, and it needs the patches at these places.
func (m *maker) refTo(own int, deps []int) api.Ref {
	if m.Intn(100) < m.mistakes {
		return api.Ref{At: m.Intn(6) - 3, N: m.Intn(6) - 1}
	}
	switch k := m.Intn(12); {
	case k < 2:
		return api.Ref{At: -1, N: k}
	case k < 4 && own > 0:
		return api.Ref{At: -2, N: m.Intn(own)}
	case len(deps) > 0:
		at := m.Intn(len(deps))
		if n := m.made[deps[at]]; n > 0 {
			return api.Ref{At: at, N: m.Intn(n)}
		}
	}
	return api.Ref{At: -1, N: m.Intn(2)}
}

// op is a right one, where there is no mistake: the most of them put lines, or delete one.
func (m *maker) op(own int, deps []int) (api.Op, bool) {
	o := api.Op{Kind: []int{1, 1, 1, 2, 3, 3, 4, 4, 5, 5}[m.Intn(10)], A: m.refTo(own, deps), B: m.refTo(own, deps)}
	if o.Kind == 1 {
		for range 1 + m.Intn(3) {
			o.Lines = append(o.Lines, string(rune('a'+m.Intn(26))))
		}
	}
	if o.Kind >= 4 {
		o.B = api.Ref{}
		return o, o.A.At >= 0
	}
	return o, o.A != o.B && o.A != api.Ref{At: -1, N: 1} && o.B != api.Ref{At: -1}
}

// patch needs some of those made ahead of it, the first one most often.
func (m *maker) patch(name string) {
	p := api.Named{Name: name}
	var deps []int
	for i := range m.set {
		if m.Intn(100) < m.needs || i == 0 && m.Intn(5) > 0 {
			deps = append(deps, i)
		}
	}
	slices.SortFunc(deps, func(i, j int) int { return strings.Compare(m.set[i].Name, m.set[j].Name) })
	for _, i := range deps {
		p.Patch.Deps = append(p.Patch.Deps, m.set[i].Name)
	}
	own := 0
	if len(m.set) == 0 {
		p.Patch.Ops = []api.Op{opOf("+^,$:A,B,C,D", "")}
		own = 4
	}
	for range m.Intn(6) {
		if o, right := m.op(own, deps); right || m.Intn(100) < m.mistakes {
			p.Patch.Ops = append(p.Patch.Ops, o)
			own += len(o.Lines)
		}
	}
	m.set, m.made = append(m.set, p), append(m.made, own)
}

// anySet is one of up to n patches, told in any order.
func anySet(r *rand.Rand, n, needs, mistakes int) []api.Named {
	m := &maker{Rand: r, mistakes: mistakes, needs: needs}
	for _, k := range r.Perm(16)[:r.Intn(n+1)] {
		m.patch(digit("0123456789abcdef"[k]))
	}
	r.Shuffle(len(m.set), func(i, j int) { m.set[i], m.set[j] = m.set[j], m.set[i] })
	return m.set
}

// P11.1, P11.2, P11.3: thousands of sets with conflicts of each kind, and such as are refused, and texts of their lines.
func TestAnySets(t *testing.T) {
	r := rand.New(rand.NewSource(11))
	count := map[string]int{}
	for i := range 4000 {
		set := anySet(r, []int{1, 3, 5, 8}[i%4], []int{5, 20, 40}[i%3], []int{0, 0, 0, 0, 3}[i%5])
		v, _ := render.Show(set)
		for range 2 {
			text := worked(r, shownLines(v))
			if _, some := asTheWordsSay(t, set, text, ""); !some {
				count["none"]++
				continue
			}
			_, p, _, _ := inWords(set, text, "")
			for _, o := range p.Ops {
				count[fmt.Sprint("ops of kind ", o.Kind)]++
			}
			for _, c := range v.Conflicts {
				count[c.Kind]++
			}
			if len(v.Conflicts) == 0 {
				count["plain"]++
			}
		}
	}
	for _, kind := range []string{"none", "plain", "order", "tangled", "doubtful", "ops of kind 1", "ops of kind 2", "ops of kind 4"} {
		if count[kind] < 100 {
			t.Errorf("%s: %d", kind, count[kind])
		}
	}
}

// union is the set of both, without doubles.
func union(a, b []api.Named) []api.Named {
	out := slices.Clone(a)
	for _, p := range b {
		if !slices.ContainsFunc(a, func(q api.Named) bool { return q.Name == p.Name }) {
			out = append(out, p)
		}
	}
	return out
}

// peers work at texts of their own, and pull from each other.
type peers struct {
	*rand.Rand
	sets  [][]api.Named
	kinds map[string]int
}

// work lets one of them record a text, take a patch back, or pull.
func (ps *peers) work(t *testing.T) {
	t.Helper()
	at := ps.Intn(len(ps.sets))
	set := ps.sets[at]
	switch k := ps.Intn(12); {
	case k < 4:
		ps.sets[at] = union(set, ps.sets[ps.Intn(len(ps.sets))])
	case k == 4 && len(set) > 0:
		p, err := patch.Inverse(set[ps.Intn(len(set))].Patch)
		if err != nil {
			return
		}
		ps.sets[at] = union(set, with(t, nil, p))
	default:
		v := show(t, set)
		text := worked(ps.Rand, shownLines(v))
		if _, some := asTheWordsSay(t, set, text, ""); !some {
			return
		}
		p, _, _ := record.Make(set, text, "")
		ps.sets[at] = with(t, set, p)
		for _, c := range v.Conflicts {
			ps.kinds[c.Kind]++
		}
	}
}

// P11.1, P11.2, P11.3: what peers come to by themselves: patches that were recorded, taken back and pulled.
func TestPeers(t *testing.T) {
	ps := peers{Rand: rand.New(rand.NewSource(12)), kinds: map[string]int{}}
	deps := 0
	for range 60 {
		base := put(t, nil, "a\nb\nc\nd\ne")
		ps.sets = [][]api.Named{base, base, base}
		for range 40 {
			ps.work(t)
		}
		for _, set := range ps.sets {
			for _, p := range set {
				if len(p.Patch.Deps) > 2 {
					deps++
				}
			}
		}
	}
	if ps.kinds["order"] < 100 || ps.kinds["doubtful"] < 100 || deps < 100 {
		t.Error(ps.kinds, deps)
	}
}

// sameAgain says whether the patch does nothing to the set that its inverse can't take back: it comes to a doubt that is
// settled for ever, and the lines of a New go on standing between two, though they are deleted.
func sameAgain(t *testing.T, set []api.Named, p api.Patch) bool {
	t.Helper()
	if doubts, _ := render.Doubts(set); len(doubts) > 0 {
		return false
	}
	g, _ := graph.Build(set)
	o := poset.New(len(g.Vertices), g.Edges)
	for _, op := range p.Ops {
		a := graph.Place(g, means(api.Named{Patch: p}, op.A))
		b := graph.Place(g, means(api.Named{Patch: p}, op.B))
		if op.Kind == api.OpNew && a > 1 && b > 1 && !o.Ahead(a, b) {
			return false
		}
	}
	return true
}

// sameView holds views against each other; an empty list may be nil or not.
func sameView(v, w api.View) bool {
	return slices.Equal(v.Rows, w.Rows) && slices.EqualFunc(v.Conflicts, w.Conflicts, func(c, d api.Conflict) bool {
		return c.Kind == d.Kind && slices.Equal(c.Lines, d.Lines)
	})
}

// P11.2: a text recorded, and the inverse of its patch: what was shown is shown again; the inverse of that: the text.
func TestTakenBack(t *testing.T) {
	r := rand.New(rand.NewSource(13))
	plainly, conflicts := 0, 0
	for i := range 3000 {
		set := anySet(r, []int{1, 3, 5, 8}[i%4], []int{5, 20, 40}[i%3], 0)
		v := show(t, set)
		text := worked(r, shownLines(v))
		p, some, _ := record.Make(set, text, "")
		if !some {
			continue
		}
		back, some := undo(t, with(t, set, p))
		if !some {
			continue
		}
		if sameAgain(t, set, p) {
			if got := show(t, back); !sameView(got, v) {
				t.Errorf("%.800s with %.500s, and taken back: %.300q, want %.300q", plain(set), told(p), render.Text(got), render.Text(v))
			}
			if len(v.Conflicts) == 0 {
				plainly++
			} else {
				conflicts++
			}
		} else if len(v.Conflicts) == 0 {
			t.Errorf("%.800s with %.500s: no conflict, and yet not as it was", plain(set), told(p))
		}
		if again, some := undo(t, back); some {
			if got := show(t, again); render.Text(got) != text || len(got.Conflicts) != 0 {
				t.Errorf("%.800s with %.500s, and taken back twice: %.300q, want %.300q", plain(set), told(p), render.Text(got), text)
			}
		}
	}
	if plainly < 500 || conflicts < 300 {
		t.Error(plainly, conflicts)
	}
}

// FuzzRecord reads a set as the tests tell it.
func FuzzRecord(f *testing.F) {
	for _, s := range []string{"", "1 +^,$:a,b", "2 +^,$:x | 3 +^,$:y", "1 +^,$:a,b | 21 +10,11:x -11 | 31 >11,10 /10,11 -10 *10", "1 +^,$:a,b | 21 +10,11:x | 31 -10 | 423", "1 | 1", "1 ?.0,z9:q", "1 +^,$:x | 2 +^,$:y | 312 /10,20 /10,20"} {
		for _, text := range []string{"", "a,b", "x,y", "y,x,new", ">>>>>>> order"} {
			f.Add(s, lay(text), "n")
		}
	}
	f.Fuzz(func(t *testing.T, s, text, note string) {
		if len(s) <= 300 {
			asTheWordsSay(t, setOf(s), text, note)
		}
	})
}
