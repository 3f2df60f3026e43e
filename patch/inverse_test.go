package patch_test

import (
	"fmt"
	"slices"
	"strings"
	"testing"

	"tambour/api"
	"tambour/patch"
)

// said is what an op does to which lines of whom, in words that don't hang on the places of Deps.
func said(kind string, ids ...string) string {
	return kind + " " + strings.Join(ids, " ")
}

// id is the line that r means in p, which has that name.
func id(p api.Patch, name string, r api.Ref) string {
	switch r.At {
	case -1:
		return fmt.Sprint("edge:", r.N)
	case -2:
		return fmt.Sprint(name, ":", r.N)
	}
	return fmt.Sprint(p.Deps[r.At], ":", r.N)
}

// does are a right patch's ops in such words.
func does(p api.Patch, name string) []string {
	var out []string
	for _, o := range p.Ops {
		a, b := id(p, name, o.A), ""
		if o.Kind < 4 {
			b = id(p, name, o.B)
		}
		switch o.Kind {
		case 1:
			out = append(out, said("new", a, b, strings.Join(o.Lines, "\n")))
		case 2:
			out = append(out, said("join", a, b))
		case 3:
			out = append(out, said("cut", a, b))
		case 4:
			out = append(out, said("delete", a))
		case 5:
			out = append(out, said("revive", a))
		}
	}
	return out
}

// takenBack are the ops that take a right patch back, in such words, as the chapter says them.
func takenBack(p api.Patch, name string) []string {
	var out []string
	made := 0
	for i, s := range does(p, name) {
		if p.Ops[i].Kind == 1 {
			for range p.Ops[i].Lines {
				out = append(out, said("delete", id(p, name, own(made))))
				made++
			}
			continue
		}
		kind, rest, _ := strings.Cut(s, " ")
		other := map[string]string{"join": "cut", "cut": "join", "delete": "revive", "revive": "delete"}
		out = append(out, said(other[kind], rest))
	}
	slices.Reverse(out)
	return out
}

// needed are the names that the words of ops name, of those that p knows.
func needed(p api.Patch, name string, ops []string) []string {
	out := []string{name}
	for _, d := range p.Deps {
		if slices.ContainsFunc(ops, func(s string) bool { return strings.Contains(s, d) }) {
			out = append(out, d)
		}
	}
	slices.Sort(out)
	return out
}

// takesBack holds Inverse of p against the chapter's words; of an inverse, once more.
func takesBack(t *testing.T, p api.Patch) {
	t.Helper()
	if q, ok := inverseHolds(t, p); ok {
		inverseHolds(t, q)
	}
}

func inverseHolds(t *testing.T, p api.Patch) (api.Patch, bool) {
	t.Helper()
	q, e := patch.Inverse(p)
	if !isRight(p) {
		if !none(q) || !only(e, api.ErrPatch) {
			t.Errorf("Inverse(%.200s) = %v, %v", plain(p), q, e)
		}
		return api.Patch{}, false
	}
	name := nameOf(p)
	ops := takenBack(p, name)
	needs := needed(p, name, ops)
	if len(ops) > 400 || len(needs) > 64 {
		if !none(q) || !only(e, api.ErrBig) {
			t.Errorf("Inverse(%.200s) = %v, %v", plain(p), q, e)
		}
		return api.Patch{}, false
	}
	if e != nil || !isRight(q) {
		t.Errorf("Inverse(%.200s) = %.200s, %v", plain(p), plain(q), e)
		return api.Patch{}, false
	}
	if q.Note != "undo" || !slices.Equal(q.Deps, needs) || !slices.Equal(does(q, "itself"), ops) {
		t.Errorf("Inverse(%.200s) = %.200s", plain(p), plain(q))
	}
	if patch.Commute(p, q) || patch.Commute(q, p) {
		t.Errorf("Inverse(%.200s) doesn't need it", plain(p))
	}
	return q, true
}

// placeOf is where p's name stands among the Deps of its inverse, which names these of p's Deps.
func placeOf(p api.Patch, named ...string) int {
	all := append([]string{nameOf(p)}, named...)
	slices.Sort(all)
	return slices.Index(all, nameOf(p))
}

// P5.1: the inverse of each kind, alone.
func TestInverseOfEachKind(t *testing.T) {
	high := strings.Repeat("f", 64)
	for _, d := range []string{dep(0), high} {
		for _, c := range []struct{ o, want api.Op }{
			{join(top, line(0, 7)), cut(top, line(0, 7))},
			{join(line(0, 7), bottom), cut(line(0, 7), bottom)},
			{join(line(0, 7), line(0, 0)), cut(line(0, 7), line(0, 0))},
			{cut(line(0, 7), line(0, 299)), join(line(0, 7), line(0, 299))},
			{cut(top, line(0, 7)), join(top, line(0, 7))},
			{del(line(0, 7)), revive(line(0, 7))},
			{revive(line(0, 7)), del(line(0, 7))},
			{del(line(0, 0)), revive(line(0, 0))},
			{revive(line(0, 299)), del(line(0, 299))},
		} {
			p := api.Patch{Note: "n", Deps: []string{d}, Ops: []api.Op{c.o}}
			name := nameOf(p)
			want := api.Patch{Note: "undo", Deps: []string{d, name}, Ops: []api.Op{c.want}}
			if d > name {
				slices.Reverse(want.Deps)
				want.Ops[0].A = moved(c.want.A)
				if c.o.Kind < 4 {
					want.Ops[0].B = moved(c.want.B)
				}
			}
			if q, e := patch.Inverse(p); e != nil || !same(q, want) {
				t.Errorf("of %v with %s: %v, %v, want %v", c.o, d, q, e, want)
			}
			takesBack(t, p)
		}
	}
}

// moved is r, where the patch's own name has come ahead of the one dep.
func moved(r api.Ref) api.Ref {
	if r.At == 0 {
		r.At = 1
	}
	return r
}

// P5.1: the inverse of New, of one line and of several, of one op and of several: from the last to the first.
func TestInverseOfNew(t *testing.T) {
	for _, c := range []struct {
		p    api.Patch
		want []int
	}{
		{with(0, put("a")), []int{0}},
		{with(0, put("a", "b", "c")), []int{2, 1, 0}},
		{with(0, put("a"), put("b")), []int{1, 0}},
		{with(0, put("a", "b"), putBetween(own(0), own(1), "c", "d", "e")), []int{4, 3, 2, 1, 0}},
		{with(3, putBetween(line(0, 1), line(2, 1), "a", "b")), []int{1, 0}},
	} {
		q, e := patch.Inverse(c.p)
		want := api.Patch{Note: "undo", Deps: []string{nameOf(c.p)}}
		for _, n := range c.want {
			want.Ops = append(want.Ops, del(line(0, n)))
		}
		if e != nil || !same(q, want) {
			t.Errorf("of %s: %v, %v", plain(c.p), q, e)
		}
		takesBack(t, c.p)
	}
}

// P5.1: the inverse of several ops, of all kinds: its Deps are those that it names, and no other one, however they lie to the patch's name.
func TestInverseDeps(t *testing.T) {
	low, high := dep(1), strings.Repeat("f", 64)
	p := api.Patch{Deps: []string{dep(0), low, dep(2), high}, Ops: []api.Op{
		putBetween(line(0, 1), line(2, 2), "a", "b"),
		join(own(1), line(3, 3)),
		del(line(1, 0)),
		putBetween(own(0), line(2, 2), "c"),
		cut(own(2), bottom),
		revive(line(3, 299)),
	}}
	me := placeOf(p, low, high)
	if me != 1 {
		t.Fatalf("its name stands at %d", me)
	}
	want := api.Patch{Note: "undo", Deps: []string{low, nameOf(p), high}, Ops: []api.Op{
		del(line(2, 299)), join(line(1, 2), bottom), del(line(1, 2)), revive(line(0, 0)), cut(line(1, 1), line(2, 3)), del(line(1, 1)), del(line(1, 0)),
	}}
	if q, e := patch.Inverse(p); e != nil || !same(q, want) {
		t.Errorf("%v, %v, want %v", q, e, want)
	}
	takesBack(t, p)
	for _, p := range []api.Patch{
		{},
		{Note: "no ops"},
		with(64),
		with(3, join(top, bottom)),
		with(3, del(line(0, 0))),
		with(3, del(line(1, 0))),
		with(3, del(line(2, 0))),
		with(3, join(line(0, 0), line(2, 0))),
		with(3, join(top, line(1, 0)), join(line(1, 0), bottom)),
		with(3, cut(line(1, 0), line(0, 5)), cut(line(0, 5), line(1, 0)), cut(line(1, 1), line(1, 2))),
		with(64, putBetween(line(0, 0), line(63, 0), "a")),
	} {
		takesBack(t, p)
	}
	if q, e := patch.Inverse(with(64)); e != nil || !slices.Equal(q.Deps, []string{nameOf(with(64))}) || len(q.Ops) != 0 || q.Note != "undo" {
		t.Errorf("of no ops: %v, %v", q, e)
	}
}

// P5.1: the inverse of an inverse, and its inverse: what was deleted is revived, and deleted again.
func TestInverseOfInverse(t *testing.T) {
	p := with(2, putBetween(line(0, 0), line(1, 1), "a", "b"), del(line(1, 1)), join(line(0, 0), own(0)))
	kinds := [][]int{{3, 5, 4, 4}, {5, 5, 4, 2}, {3, 5, 4, 4}, {5, 5, 4, 2}}
	first := nameOf(p)
	for i, want := range kinds {
		q, ok := inverseHolds(t, p)
		if !ok {
			t.Fatal(plain(p))
		}
		var got []int
		for _, o := range q.Ops {
			got = append(got, o.Kind)
		}
		if !slices.Equal(got, want) {
			t.Errorf("%d: %v, want %v", i, got, want)
		}
		if !slices.Contains(q.Deps, nameOf(p)) || !slices.Contains(q.Deps, first) || slices.Contains(q.Deps, nameOf(q)) {
			t.Errorf("%d: %v", i, q.Deps)
		}
		if len(q.Deps) != 3+min(i, 1) {
			t.Errorf("%d: %d Deps", i, len(q.Deps))
		}
		p = q
	}
}

// P5.1, R2: ErrBig, and nothing beside it, of an inverse of too many ops.
func TestInverseOps(t *testing.T) {
	l := slices.Repeat([]string{"a"}, 300)
	for _, c := range []struct{ lines, others int }{
		{300, 0}, {300, 1}, {300, 99}, {300, 100}, {300, 101}, {300, 102}, {300, 200}, {300, 399},
		{1, 398}, {1, 399}, {2, 397}, {2, 398}, {2, 399}, {3, 398}, {3, 399}, {200, 200}, {200, 201}, {100, 301}, {150, 399},
	} {
		for _, o := range []api.Op{join(top, line(0, 0)), cut(line(0, 0), bottom), del(line(0, 0)), revive(line(0, 0))} {
			p := with(1, append([]api.Op{put(l[:c.lines]...)}, times(c.others, o)...)...)
			q, e := patch.Inverse(p)
			if c.lines+c.others > 400 && (!none(q) || !only(e, api.ErrBig)) || c.lines+c.others <= 400 && (e != nil || len(q.Ops) != c.lines+c.others) {
				t.Errorf("%d lines, %d others: %d ops, %v", c.lines, c.others, len(q.Ops), e)
			}
			takesBack(t, p)
		}
	}
	takesBack(t, with(0, times(300, put("a"))...))
	takesBack(t, with(1, times(400, del(line(0, 0)))...))
}

// P5.1, R2: ErrBig, and nothing beside it, of an inverse of too many Deps: all 64 of the patch, and the patch.
func TestInverseDepsTooMany(t *testing.T) {
	for n := 60; n <= 64; n++ {
		for named := range n + 1 {
			var dels, joins, news []api.Op
			for i := range named {
				dels = append(dels, del(line(i, 0)))
				joins = append(joins, join(line(i, 0), bottom))
				news = append(news, putBetween(line(i, 0), bottom, "a"))
			}
			for _, ops := range [][]api.Op{dels, joins} {
				q, e := patch.Inverse(with(n, ops...))
				if named == 64 && (!none(q) || !only(e, api.ErrBig)) || named < 64 && (e != nil || len(q.Deps) != named+1) {
					t.Errorf("%d of %d Deps: %d, %v", named, n, len(q.Deps), e)
				}
			}
			if q, e := patch.Inverse(with(n, news...)); e != nil || len(q.Deps) != 1 {
				t.Errorf("%d of %d Deps, that its lines stand behind: %d, %v", named, n, len(q.Deps), e)
			}
			if named > 58 {
				takesBack(t, with(n, dels...))
				takesBack(t, with(n, joins...))
				takesBack(t, with(n, news...))
			}
		}
	}
}

// P5.1: an inverse is short, however long the patch is: nothing of its bytes can be too many.
func TestInverseOfLong(t *testing.T) {
	for _, n := range []int{65000, 65535, 65536} {
		if q, e := patch.Inverse(ofSize(n)); e != nil || len(plain(q)) > 10000 {
			t.Errorf("%d bytes: %v", n, e)
		}
		takesBack(t, ofSize(n))
	}
	var ops []api.Op
	for i := range 400 {
		ops = append(ops, join(line(i%62, 299), line(i%62+1, 299)))
	}
	if q, e := patch.Inverse(with(63, ops...)); e != nil || len(q.Ops) != 400 || len(q.Deps) != 64 {
		t.Errorf("400 ops, 64 Deps: %v", e)
	}
	takesBack(t, with(63, ops...))
}

// P5.1, R1, R2: ErrPatch, and nothing beside it, of patches that aren't right, also where an inverse would be too big.
func TestInverseWrong(t *testing.T) {
	l := slices.Repeat([]string{"a"}, 300)
	for why, p := range map[string]api.Patch{
		"an op that is none":        with(0, api.Op{}),
		"a note":                    {Note: strings.Repeat("n", 101)},
		"a ref past its Deps":       with(1, del(line(1, 0))),
		"a ref below all":           with(1, join(line(-3, 0), bottom)),
		"its own line deleted":      with(0, put("a"), del(own(0))),
		"too many ops":              with(1, times(401, del(line(0, 0)))...),
		"too many lines":            with(0, put(l...), put("a")),
		"too many Deps":             with(65),
		"a name that is none":       {Deps: []string{"x"}, Ops: []api.Op{del(line(0, 0))}},
		"too many bytes":            ofSize(65537),
		"and too big, of ops":       with(1, append(times(399, del(line(0, 0))), api.Op{})...),
		"and too big, of lines":     with(1, append(times(300, del(line(0, 0))), put(l...), del(own(0)))...),
		"and too many Deps of it":   with(64, put("a"), del(line(64, 0))),
		"and too big, of its bytes": with(1, put(slices.Repeat([]string{strings.Repeat("x", 500)}, 300)...), join(top, line(0, 0))),
	} {
		if q, e := patch.Inverse(p); !none(q) || !only(e, api.ErrPatch) {
			t.Errorf("%s: %v, %v", why, q, e)
		}
	}
}

// P5.2: an inverse does nothing to lines that it doesn't name: what it does, with what the patch did, is nothing.
func TestInverseTakesBack(t *testing.T) {
	p := with(3, putBetween(line(0, 0), line(1, 1), "a", "b"), del(line(1, 1)), del(line(1, 1)), revive(line(2, 2)), join(line(0, 0), own(0)), cut(line(0, 1), line(2, 0)), join(line(0, 0), own(0)), put("c"))
	q, e := patch.Inverse(p)
	if e != nil {
		t.Fatal(e)
	}
	r, e := patch.Inverse(q)
	if e != nil {
		t.Fatal(e)
	}
	sum := map[string]int{}
	for _, s := range slices.Concat(does(p, nameOf(p)), does(q, nameOf(q))) {
		kind, rest, _ := strings.Cut(s, " ")
		switch kind {
		case "join":
			sum["edge "+rest]++
		case "cut":
			sum["edge "+rest]--
		case "delete":
			sum["line "+rest]++
		case "revive":
			sum["line "+rest]--
		}
	}
	for s, n := range sum {
		own := strings.HasPrefix(s, "line "+nameOf(p)+":")
		if own && n != 1 || !own && n != 0 {
			t.Errorf("%s: %d is left", s, n)
		}
	}
	if len(sum) != 2+3+2 {
		t.Errorf("%v", sum)
	}
	for i, s := range does(r, nameOf(r)) {
		back := takenBack(q, nameOf(q))[i]
		if s != back {
			t.Errorf("%s, want %s", s, back)
		}
	}
}
