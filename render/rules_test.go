package render_test

import (
	"fmt"
	"slices"
	"strings"
	"sync"
	"testing"
	"time"

	"tambour/api"
	"tambour/render"
)

// clone is a set in memory of its own.
func clone(set []api.Named) []api.Named {
	out := slices.Clone(set)
	for i, p := range out {
		out[i].Patch.Deps = slices.Clone(p.Patch.Deps)
		out[i].Patch.Ops = slices.Clone(p.Patch.Ops)
		for j, o := range p.Patch.Ops {
			out[i].Patch.Ops[j].Lines = slices.Clone(o.Lines)
		}
	}
	return out
}

// equal holds sets against each other.
func equal(a, b []api.Named) bool {
	return slices.EqualFunc(a, b, func(p, q api.Named) bool {
		return p.Name == q.Name && p.Patch.Note == q.Patch.Note && slices.Equal(p.Patch.Deps, q.Patch.Deps) &&
			slices.EqualFunc(p.Patch.Ops, q.Patch.Ops, func(o, x api.Op) bool {
				return o.Kind == x.Kind && o.A == x.A && o.B == x.B && slices.Equal(o.Lines, x.Lines)
			})
	})
}

// cloneView is a view in memory of its own.
func cloneView(v api.View) api.View {
	out := api.View{Rows: slices.Clone(v.Rows), Conflicts: slices.Clone(v.Conflicts)}
	for i, c := range out.Conflicts {
		out.Conflicts[i].Lines = slices.Clone(c.Lines)
	}
	return out
}

// cloneDoubts are doubts in memory of their own.
func cloneDoubts(l []api.Doubt) []api.Doubt {
	out := slices.Clone(l)
	for i, d := range out {
		out[i].Patches = slices.Clone(d.Patches)
	}
	return out
}

// unlike are sets of each kind: with all conflicts and with none, and with each fault.
func unlike() []string {
	return []string{
		"", "1", "1 +^,$:a,b", "2 +^,$:x | 3 +^,$:y",
		"1 +^,$:a,b,c,d | 21 >11,10 +12,13:x,z | 31 +11,12:p -13 | 41 +11,12:q -13",
		"1 +^,$:a,b,c,d,e,f | 21 >11,10 >14,13 +10,12:x +12,13:y | 31 -12 | 413 +14,15:p +15,$:r | 513 +14,15:q +15,$:s",
		"2 +^,$:a | 1 +^,$:b | 1", "34 | 2 +^,$:a | 1", "2 | 1 +^,^:a", "2 +^,$:a | 12 -21 +^,$:b",
	}
}

// roomy is a set each list of which has room behind it, and what stands in that room too.
func roomy(set []api.Named) (in, whole []api.Named) {
	whole = append(clone(set), setOf("9 +^,$:room | 8")...)
	in = slices.Clone(whole)
	for i, p := range whole {
		deps, ops := append(p.Patch.Deps, "room"), append(p.Patch.Ops, opOf("+^,$:room", ""), opOf("-10", "1"))
		for j, o := range ops {
			ops[j].Lines = append(o.Lines, "room", "more")
		}
		whole[i].Patch.Deps, whole[i].Patch.Ops = deps, ops
		short := slices.Clone(ops)
		for j, o := range short {
			short[j].Lines = o.Lines[:len(o.Lines)-2]
		}
		in[i].Patch.Deps, in[i].Patch.Ops = deps[:len(deps)-1], short[:len(short)-2]
	}
	return in[:len(set)], whole
}

// R4: what is handed in is not changed, the room behind it neither.
func TestArgumentsUnchanged(t *testing.T) {
	for _, s := range unlike() {
		set, whole := roomy(setOf(s))
		all := set[:cap(set)]
		var room [][]api.Op
		for _, p := range all {
			room = append(room, p.Patch.Ops[:cap(p.Patch.Ops)])
		}
		was, wasWhole, wasRoom := clone(all), clone(whole), make([][]api.Op, len(room))
		for i, ops := range room {
			wasRoom[i] = slices.Clone(ops)
		}
		for range 3 {
			v, _ := render.Show(set)
			render.Doubts(set)
			if !equal(set, setOf(s)) || !equal(all, was) || !equal(whole, wasWhole) {
				t.Errorf("%s: now %s", s, plain(whole))
			}
			for i, ops := range room {
				if !slices.EqualFunc(ops, wasRoom[i], func(o, x api.Op) bool { return o.Kind == x.Kind && o.A == x.A && o.B == x.B }) {
					t.Errorf("%s: behind the ops of %d: %v", s, i, ops)
				}
			}
			spare := append(slices.Clone(v.Rows), api.Row{Text: "room"})
			v.Rows = spare[:len(v.Rows)]
			wasView, wasSpare := cloneView(v), slices.Clone(spare)
			render.Text(v)
			if !sameView(v, wasView) || !slices.Equal(spare, wasSpare) {
				t.Errorf("%s: Text: now %v", s, v)
			}
		}
	}
}

// told tells all that the calls answer.
func told(set []api.Named) string {
	v, e := render.Show(set)
	l, f := render.Doubts(set)
	return fmt.Sprintf("%s; %s; %s; %q; %v, %v", rows(v), conflicts(v), doubts(l), render.Text(v), e, f)
}

// spoil writes to a list, and behind it.
func spoil[T any](l []T, with T) {
	l = l[:cap(l)]
	for i := range l {
		l[i] = with
	}
}

// R4: what is answered is memory of its own: whoever writes to it, and behind it, changes neither what was handed in nor
// another answer, nor another list of the same answer.
func TestAnswersApart(t *testing.T) {
	for _, s := range unlike() {
		set := setOf(s)
		want := told(set)
		first, _ := render.Show(set)
		second, _ := render.Show(set)
		doubted, _ := render.Doubts(set)
		again, _ := render.Doubts(set)
		kept, keptDoubts := cloneView(second), cloneDoubts(again)
		for i := range first.Conflicts {
			spoil(first.Conflicts[i].Lines, api.Id{Patch: "spoilt"})
			if !slices.EqualFunc(first.Conflicts[i+1:], kept.Conflicts[i+1:], func(c, d api.Conflict) bool { return slices.Equal(c.Lines, d.Lines) }) || !slices.Equal(first.Rows, kept.Rows) {
				t.Errorf("%s: %s, once conflict %d is spoilt", s, conflicts(first), i)
			}
		}
		for i := range doubted {
			spoil(doubted[i].Patches, "spoilt")
			if !sameDoubts(doubted[i+1:], keptDoubts[i+1:]) {
				t.Errorf("%s: %s, once doubt %d is spoilt", s, doubts(doubted), i)
			}
		}
		spoil(first.Rows, api.Row{Text: "spoilt"})
		spoil(first.Conflicts, api.Conflict{Kind: "spoilt"})
		spoil(doubted, api.Doubt{})
		if !sameView(second, kept) || !sameDoubts(again, keptDoubts) || told(set) != want || !equal(set, setOf(s)) {
			t.Errorf("%s: %s, once an answer is spoilt: %s", s, want, told(set))
		}
	}
}

// R4, R7: what is handed in is not kept: an answer stays, whatever becomes of it and whatever is asked next, and the next
// one hangs on its own arguments.
func TestNotKept(t *testing.T) {
	set := setOf("1 +^,$:a,b | 21 +10,11:x | 31 -10 | 41 +11,$:y | 51 +11,$:z")
	v, _ := render.Show(set)
	l, _ := render.Doubts(set)
	kept, keptDoubts := cloneView(v), cloneDoubts(l)
	if rows(v) != "[doubtful x] b [order y / z]" || doubts(l) != "20: 2 3" {
		t.Error(rows(v), doubts(l))
	}
	set[0].Patch.Ops[0].Lines[1] = "c"
	set[2].Name = digit('6')
	set[2].Patch.Ops[0].A.N = 1
	for _, s := range unlike() {
		told(setOf(s))
	}
	if got := told(set); got != `a [doubtful x] [order y / z]; doubtful 20; order 40 50; 20: 2 6; 40: 4 6; 50: 5 6; "a\n>>>>>>> doubtful\nx\n<<<<<<<\n>>>>>>> order\ny\n=======\nz\n<<<<<<<"; <nil>, <nil>` {
		t.Error(got)
	}
	if !sameView(v, kept) || !sameDoubts(l, keptDoubts) {
		t.Errorf("%s; %s; %s", rows(v), conflicts(v), doubts(l))
	}
}

// R7: one answer, however often it is asked for, whatever was asked ahead, and by however many at once.
func TestOneAnswer(t *testing.T) {
	want := map[string]string{}
	shared := map[string][]api.Named{}
	for _, s := range unlike() {
		want[s], shared[s] = told(setOf(s)), setOf(s)
	}
	var all sync.WaitGroup
	for range 8 {
		all.Go(func() {
			for range 20 {
				for _, s := range unlike() {
					if got, again := told(setOf(s)), told(shared[s]); got != want[s] || again != want[s] {
						t.Errorf("%s: %s, and then %s, %s", s, want[s], got, again)
					}
				}
			}
		})
	}
	all.Wait()
}

// P0: patches of nothing, of kinds, refs and names that can't be.
func TestAnything(t *testing.T) {
	far := []int{-1 << 63, -3, -2, -1, 0, 1, 300, 1<<63 - 1}
	var refs []api.Ref
	for _, at := range far {
		for _, n := range far {
			refs = append(refs, api.Ref{At: at, N: n})
		}
	}
	for kind := -1; kind < 8; kind++ {
		for i, r := range refs {
			for _, q := range []api.Ref{{}, {At: -1, N: 1}, {At: -2}, refs[(i*7+5)%len(refs)]} {
				for _, lines := range [][]string{nil, {"x"}} {
					set := setOf("1 +^,$:a | 21 +^,$:b | 31 -10")
					set[1].Patch.Ops = append(set[1].Patch.Ops, api.Op{Kind: kind, A: r, B: q, Lines: lines})
					asTheWordsSay(t, set)
				}
			}
		}
	}
	for _, set := range [][]api.Named{{{}}, {{}, {}}, make([]api.Named, 1000), {{Name: "a", Patch: api.Patch{Deps: make([]string, 100)}}}, {{Name: "a", Patch: api.Patch{Ops: make([]api.Op, 100)}}}} {
		asTheWordsSay(t, set)
	}
}

// big holds Show and Doubts on a big set, told as it is and back, against how many rows, conflicts and doubts there are.
func big(t *testing.T, why string, set []api.Named, rows, conflicts, doubts int) (api.View, []api.Doubt) {
	t.Helper()
	begun := time.Now()
	v, e := render.Show(set)
	l, f := render.Doubts(set)
	if e != nil || f != nil || len(v.Rows) != rows || len(v.Conflicts) != conflicts || len(l) != doubts {
		t.Errorf("%s: %d, %d, %d, %v, %v, want %d, %d, %d", why, len(v.Rows), len(v.Conflicts), len(l), e, f, rows, conflicts, doubts)
	}
	toldOnce(t, set, v)
	back := slices.Clone(set)
	slices.Reverse(back)
	w, e := render.Show(back)
	m, f := render.Doubts(back)
	if e != nil || f != nil || !sameView(v, w) || !sameDoubts(l, m) {
		t.Errorf("%s: not the same from its end on: %v, %v", why, e, f)
	}
	if d := time.Since(begun); d > 30*time.Second {
		t.Errorf("%s: %v", why, d)
	}
	return v, l
}

// P10.1, P10.2, P0: sets with many patches, many lines and many doubts.
func TestBig(t *testing.T) {
	number := func(i int) string { return fmt.Sprintf("%064x", i) }
	named := func(i int, s string) api.Named { return api.Named{Name: number(i), Patch: setOf(s)[0].Patch} }
	needs := func(p api.Named, i int) api.Named {
		p.Patch.Deps = []string{number(i)}
		return p
	}
	const many = 20000
	chain := []api.Named{named(0, "0 +^,$:a")}
	for i := 1; i < many; i++ {
		chain = append(chain, needs(named(i, "10 +00,$:b"), i-1))
	}
	big(t, "a chain", chain, many, 0, 0)
	for i := range chain[1:] {
		chain[i+1].Patch.Ops = append(chain[i+1].Patch.Ops, opOf("-00", "0"))
	}
	big(t, "a chain of which each deletes the line ahead of it", chain, 1, 0, 0)
	var wide []api.Named
	for i := range 100 {
		wide = append(wide, named(i, "1 +^,$:"+strings.Repeat("x,", 299)+"x"))
	}
	big(t, "a hundred texts side by side", wide, 30000+101, 1, 0)
	text := []api.Named{named(0, "0 +^,$:"+strings.Repeat("a,", 299)+"a")}
	for i := 1; i < api.MaxPatches; i++ {
		p := needs(named(i, "10"), 0)
		for k := range 299 {
			if i%2 == 0 {
				p.Patch.Ops = append(p.Patch.Ops, opOf(fmt.Sprintf("-0%d", k), "0"))
			} else {
				p.Patch.Ops = append(p.Patch.Ops, opOf(fmt.Sprintf("+0%d,0%d:y", k, k+1), "0"))
			}
		}
		text = append(text, p)
	}
	_, l := big(t, "half of all patches delete what the others stand beside", text, 64*299+3, 1, 64*299)
	if len(l[0].Patches) != 64 || len(l[len(l)-1].Patches) != 64 {
		t.Errorf("%d, %d", len(l[0].Patches), len(l[len(l)-1].Patches))
	}
	pairs := []api.Named{named(0, "0 +^,$:a,b")}
	for i := 1; i < many; i++ {
		pairs = append(pairs, needs(named(i, "10 +00,01:x"), 0))
	}
	pairs = append(pairs, needs(named(many, "10 -00"), 0))
	big(t, "many that one knows nothing of", pairs, 2*many, 1, many-1)
}
