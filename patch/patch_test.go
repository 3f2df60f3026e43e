package patch_test

import (
	"crypto/sha256"
	"errors"
	"fmt"
	"math"
	"math/rand"
	"regexp"
	"slices"
	"strings"
	"testing"

	"tambour/api"
	"tambour/patch"
)

var (
	top    = api.Ref{At: -1}
	bottom = api.Ref{At: -1, N: 1}
	isName = regexp.MustCompile(`\A[0-9a-f]{64}\z`)
)

// dep is the n-th of names that rise.
func dep(n int) string {
	return fmt.Sprintf("%064x", n)
}

func deps(n int) []string {
	var out []string
	for i := range n {
		out = append(out, dep(i))
	}
	return out
}

func own(n int) api.Ref {
	return api.Ref{At: -2, N: n}
}

func line(at, n int) api.Ref {
	return api.Ref{At: at, N: n}
}

func putBetween(a, b api.Ref, l ...string) api.Op {
	return api.Op{Kind: api.OpNew, A: a, B: b, Lines: l}
}

func put(l ...string) api.Op {
	return putBetween(top, bottom, l...)
}

func join(a, b api.Ref) api.Op {
	return api.Op{Kind: api.OpJoin, A: a, B: b}
}

func cut(a, b api.Ref) api.Op {
	return api.Op{Kind: api.OpCut, A: a, B: b}
}

func del(a api.Ref) api.Op {
	return api.Op{Kind: api.OpDelete, A: a}
}

func revive(a api.Ref) api.Op {
	return api.Op{Kind: api.OpRevive, A: a}
}

// with is a patch that needs n others.
func with(n int, ops ...api.Op) api.Patch {
	return api.Patch{Note: "n", Deps: deps(n), Ops: ops}
}

// times is n times o.
func times(n int, o api.Op) []api.Op {
	return slices.Repeat([]api.Op{o}, n)
}

// same holds patches against each other; an empty list may be nil or not.
func same(p, q api.Patch) bool {
	return p.Note == q.Note && slices.Equal(p.Deps, q.Deps) && slices.EqualFunc(p.Ops, q.Ops, func(o, x api.Op) bool {
		return o.Kind == x.Kind && o.A == x.A && o.B == x.B && slices.Equal(o.Lines, x.Lines)
	})
}

// clone is p in memory of its own.
func clone(p api.Patch) api.Patch {
	out := api.Patch{Note: p.Note, Deps: slices.Clone(p.Deps), Ops: slices.Clone(p.Ops)}
	for i, o := range out.Ops {
		out.Ops[i].Lines = slices.Clone(o.Lines)
	}
	return out
}

// none says whether p is the zero patch.
func none(p api.Patch) bool {
	return same(p, api.Patch{})
}

// only says whether e is the error n, and no other one.
func only(e error, n api.Errno) bool {
	for i := range api.Errno(100) {
		if errors.Is(e, i) != (i == n) {
			return false
		}
	}
	var got api.Errno
	return errors.As(e, &got) && got == n
}

// isFault says whether e is what Read answers where there is no patch.
func isFault(e error) bool {
	var f *api.Fault
	return only(e, api.ErrPatch) && errors.As(e, &f) && f.What == "patch"
}

// plain says p's bytes in the chapter's words.
func plain(p api.Patch) string {
	text := func(s string) string { return fmt.Sprintf("%d:%s", len(s), s) }
	list := func(l []string) string { return "(" + strings.Join(l, "") + ")" }
	texts := func(l []string) string {
		var out []string
		for _, s := range l {
			out = append(out, text(s))
		}
		return list(out)
	}
	ref := func(r api.Ref) string { return texts([]string{fmt.Sprint(r.At), fmt.Sprint(r.N)}) }
	var ops []string
	for _, o := range p.Ops {
		ops = append(ops, list([]string{text(fmt.Sprint(o.Kind)), ref(o.A), ref(o.B), texts(o.Lines)}))
	}
	return list([]string{"7:tambour", text(p.Note), texts(p.Deps), list(ops)})
}

// isRight says in the chapter's words whether p is.
func isRight(p api.Patch) bool {
	if len(p.Note) > 100 || len(p.Deps) > 64 || len(p.Ops) > 400 || len(plain(p)) > 65536 {
		return false
	}
	for i, d := range p.Deps {
		if !isName.MatchString(d) || slices.ContainsFunc(p.Deps[:i], func(other string) bool { return other >= d }) {
			return false
		}
	}
	ahead := 0
	for _, o := range p.Ops {
		if !isRightOp(o, len(p.Deps), ahead) {
			return false
		}
		ahead += len(o.Lines)
	}
	return ahead <= 300
}

// isRightOp says it of an op that has so many lines ahead of it, in a patch of so many Deps.
func isRightOp(o api.Op, deps, ahead int) bool {
	ref := func(r api.Ref) bool {
		return r == top || r == bottom || r.At == -2 && r.N >= 0 && r.N < ahead || r.At >= 0 && r.At < deps && r.N >= 0 && r.N <= 299
	}
	two := ref(o.A) && ref(o.B) && o.A != o.B && o.A != bottom && o.B != top
	one := ref(o.A) && o.A.At >= 0 && o.B == api.Ref{}
	if o.Kind == 1 {
		return two && len(o.Lines) >= 1 && !slices.ContainsFunc(o.Lines, isNoLine)
	}
	return len(o.Lines) == 0 && (two && (o.Kind == 2 || o.Kind == 3) || one && (o.Kind == 4 || o.Kind == 5))
}

// isNoLine says whether a New can't put s.
func isNoLine(s string) bool {
	for _, sign := range []string{">", "=", "<"} {
		if strings.HasPrefix(s, strings.Repeat(sign, 7)) {
			return true
		}
	}
	return len(s) > 500 || strings.Contains(s, "\n")
}

// asTheWordsSay holds each call of p against them.
func asTheWordsSay(t *testing.T, p api.Patch) {
	t.Helper()
	was, right, bytes := clone(p), isRight(p), plain(p)
	if patch.Right(p) != right {
		t.Errorf("Right(%.200s) = %t", bytes, !right)
	}
	s, e := patch.Write(p)
	name, f := patch.Name(p)
	q, g := patch.Read(bytes)
	if right {
		if s != bytes || e != nil {
			t.Errorf("Write(%.200s) = %.200s, %v", bytes, s, e)
		}
		if name != fmt.Sprintf("%x", sha256.Sum256([]byte(bytes))) || f != nil {
			t.Errorf("Name(%.200s) = %s, %v", bytes, name, f)
		}
		if !same(p, q) || g != nil {
			t.Errorf("Read(%.200s) = %v, %v", bytes, q, g)
		}
	} else if s != "" || !only(e, api.ErrPatch) || name != "" || !only(f, api.ErrPatch) || !none(q) || !isFault(g) {
		t.Errorf("%.200s: Write: %.200s, %v; Name: %s, %v; Read: %v, %v", bytes, s, e, name, f, q, g)
	}
	made := 0
	for _, o := range p.Ops {
		if o.Kind == 1 {
			made += len(o.Lines)
		}
	}
	if got := patch.Made(p); got != made {
		t.Errorf("Made(%.200s) = %d", bytes, got)
	}
	if patch.Commute(p, p) != right {
		t.Errorf("Commute(%.200s, itself) = %t", bytes, !right)
	}
	takesBack(t, p)
	if !same(p, was) {
		t.Errorf("%.200s is %.200s now", plain(was), plain(p))
	}
}

// P5.1: the bytes and the name of patches that are known.
func TestKnown(t *testing.T) {
	for _, c := range []struct {
		p           api.Patch
		bytes, name string
	}{
		{api.Patch{}, "(7:tambour0:()())", "66687fb71ac1e464fbbd3b9c87d4e30a8111222c541eabc38fc45385635ed7d6"},
		{with(0, put("a", "b")), "(7:tambour1:n()((1:1(2:-11:0)(2:-11:1)(1:a1:b))))", "6d73d9a6f0ca42d16c2d89e58fe38d683fbc65409048ad2b407d9777e7316d21"},
		{with(1, join(top, line(0, 12)), del(line(0, 299))), "(7:tambour1:n(64:" + dep(0) + ")((1:2(2:-11:0)(1:02:12)())(1:4(1:03:299)(1:01:0)())))", "cf548735e79fe588d5c89d5ecff1f49cadccbf56604a1e9650b9f2768aeb5840"},
	} {
		if s, e := patch.Write(c.p); s != c.bytes || e != nil {
			t.Errorf("Write: %s, %v, want %s", s, e, c.bytes)
		}
		if s, e := patch.Name(c.p); s != c.name || e != nil {
			t.Errorf("Name: %s, %v, want %s", s, e, c.name)
		}
		if p, e := patch.Read(c.bytes); !same(p, c.p) || e != nil {
			t.Errorf("Read(%s): %v, %v", c.bytes, p, e)
		}
		asTheWordsSay(t, c.p)
	}
}

// P5.1: Made, of lines of New ops alone, in patches that are right and that aren't.
func TestMade(t *testing.T) {
	many := slices.Repeat([]string{"a"}, 5000)
	for _, c := range []struct {
		why  string
		p    api.Patch
		want int
	}{
		{"none", api.Patch{}, 0},
		{"one line", with(0, put("a")), 1},
		{"three lines", with(0, put("a", "", "a")), 3},
		{"two ops", with(0, put("a", "b"), putBetween(own(0), own(1), "c", "d", "e")), 5},
		{"beside other ops", with(1, del(line(0, 0)), put("a"), join(top, line(0, 0)), cut(top, line(0, 1)), put("b"), revive(line(0, 0))), 2},
		{"ops of other kinds alone", with(1, del(line(0, 0)), join(top, line(0, 0)), cut(top, line(0, 1)), revive(line(0, 0))), 0},
		{"a New without lines", with(0, put()), 0},
		{"a New without refs", with(0, api.Op{Kind: 1, Lines: []string{"a", "b"}}), 2},
		{"lines that can't be", with(0, put("=======", "a\nb\nc", strings.Repeat("a", 501))), 3},
		{"too many lines", with(0, put(many...), put(many...)), 10000},
		{"too many ops", with(0, times(500, put("a"))...), 500},
		{"a Note that's too long", api.Patch{Note: strings.Repeat("n", 101), Ops: []api.Op{put("a")}}, 1},
		{"names that aren't", api.Patch{Deps: []string{"x", ""}, Ops: []api.Op{put("a")}}, 1},
		{"lines of other kinds", with(1, api.Op{Lines: many}, api.Op{Kind: 2, Lines: many}, api.Op{Kind: 3, Lines: many}, api.Op{Kind: 4, Lines: many}, api.Op{Kind: 5, Lines: many}, api.Op{Kind: 6, Lines: many}, api.Op{Kind: -1, Lines: many}), 0},
		{"and of New beside", with(1, api.Op{Kind: 2, Lines: many}, put("a", "b"), api.Op{Kind: 6, Lines: many}), 2},
	} {
		if got := patch.Made(c.p); got != c.want {
			t.Errorf("%s: Made %d, want %d", c.why, got, c.want)
		}
	}
}

// nameOf is p's name, in the words of the chapter.
func nameOf(p api.Patch) string {
	return fmt.Sprintf("%x", sha256.Sum256([]byte(plain(p))))
}

// needing is a right patch with these Deps, and a note that parts it from others.
func needing(note string, names ...string) api.Patch {
	slices.Sort(names)
	return api.Patch{Note: note, Deps: names}
}

// P5.1: Commute, either way round.
func TestCommute(t *testing.T) {
	a, b := with(0, put("a")), with(0, put("b"))
	first, last := deps(1)[0], strings.Repeat("f", 64)
	needsA := needing("", nameOf(a))
	among := needing("", first, nameOf(a), last)
	through := needing("", nameOf(needsA))
	many := needing("", append(deps(63), nameOf(a))...)
	for _, c := range []struct {
		why  string
		p, q api.Patch
		want bool
	}{
		{"a patch and itself", a, a, true},
		{"a patch and its copy", a, clone(a), true},
		{"the empty patch and itself", api.Patch{}, api.Patch{}, true},
		{"two that don't know each other", a, b, true},
		{"two that need the same", needing("x", nameOf(a)), needing("y", nameOf(a)), true},
		{"two of the same ops, of other notes", api.Patch{Note: "x"}, api.Patch{Note: "y"}, true},
		{"one needs the other", needsA, a, false},
		{"one needs the other, among others", among, a, false},
		{"one needs the other, among 64", many, a, false},
		{"one needs another one", needsA, b, true},
		{"one needs the other through a third", through, a, true},
		{"one needs the one that needs", through, needsA, false},
		{"one needs some, and not the other", among, b, true},
	} {
		if patch.Commute(c.p, c.q) != c.want || patch.Commute(c.q, c.p) != c.want {
			t.Errorf("%s: %t, %t, want %t", c.why, patch.Commute(c.p, c.q), patch.Commute(c.q, c.p), c.want)
		}
	}
}

// P5.1: Commute, of patches that aren't right, one of them or both.
func TestCommuteWrong(t *testing.T) {
	a := with(0, put("a"))
	for why, bad := range map[string]api.Patch{
		"a note":            {Note: strings.Repeat("n", 101)},
		"an op":             with(0, put()),
		"a dep":             {Deps: []string{"x"}},
		"what it needs":     {Note: strings.Repeat("n", 101), Deps: []string{nameOf(a)}},
		"too many bytes":    ofSize(65537),
		"its deps, falling": {Deps: []string{dep(1), dep(0)}},
	} {
		if patch.Commute(bad, a) || patch.Commute(a, bad) || patch.Commute(bad, bad) || patch.Commute(bad, api.Patch{}) || patch.Commute(api.Patch{}, bad) {
			t.Errorf("%s: Commute is true", why)
		}
	}
}

// room is a patch with room behind each of its lists, and sentinels there.
func room(right bool) api.Patch {
	l := []string{"a", "b", "behind", "behind"}[:2]
	ops := []api.Op{put(l...), del(line(1, 3)), join(line(0, 2), own(1)), putBetween(line(0, 1), own(0), "c"), cut(top, line(1, 1)), revive(line(0, 0)), del(line(5, 5)), put("behind")}[:6]
	p := api.Patch{Note: "n", Deps: []string{dep(3), dep(7), dep(8), "behind"}[:2], Ops: ops}
	if !right {
		p.Ops[0].B = top
	}
	return p
}

// whole is p with what stands behind its lists.
func whole(p api.Patch) api.Patch {
	out := api.Patch{Note: p.Note, Deps: p.Deps[:cap(p.Deps)], Ops: slices.Clone(p.Ops[:cap(p.Ops)])}
	for i, o := range out.Ops {
		out.Ops[i].Lines = o.Lines[:cap(o.Lines)]
	}
	return out
}

// R4: what is handed in is as it was behind each call, the room behind it too.
func TestArgumentsUnchanged(t *testing.T) {
	for _, right := range []bool{true, false} {
		p, q := room(right), room(true)
		if isRight(p) != right || len(whole(p).Ops) != 8 || len(whole(p).Deps) != 4 || len(whole(p).Ops[0].Lines) != 4 {
			t.Fatalf("%v", whole(p))
		}
		for range 2 {
			patch.Right(p)
			patch.Write(p)
			patch.Name(p)
			patch.Made(p)
			patch.Commute(p, q)
			patch.Commute(q, p)
			i, e := patch.Inverse(p)
			if (e == nil) != right {
				t.Errorf("Inverse: %v", e)
			}
			spoil(i)
		}
		if !same(whole(p), whole(room(right))) || !same(whole(q), whole(room(true))) {
			t.Errorf("%v", whole(p))
		}
	}
}

// spoil writes over all lists of p, and over the room behind them.
func spoil(p api.Patch) {
	p = whole(p)
	for i := range p.Deps {
		p.Deps[i] = "spoilt"
	}
	for _, o := range p.Ops {
		for i := range o.Lines {
			o.Lines[i] = "spoilt"
		}
	}
	clear(p.Ops)
}

// R4: what was answered hangs neither on what was handed in nor on what was answered ahead.
func TestNotKept(t *testing.T) {
	p := room(true)
	i, e := patch.Inverse(p)
	want := clone(i)
	if e != nil {
		t.Fatal(e)
	}
	spoil(p)
	if !same(i, want) {
		t.Errorf("Inverse: %v", i)
	}
	s := plain(room(true))
	first, e := patch.Read(s)
	if e != nil || !same(first, room(true)) {
		t.Fatal(first, e)
	}
	spoil(first)
	if again, e := patch.Read(s); e != nil || !same(again, room(true)) {
		t.Errorf("Read: %v, %v", again, e)
	}
}

// R4: no two lists of an answer hang together.
func TestListsApart(t *testing.T) {
	p := with(0, put("a", "b"), putBetween(own(0), own(1), "a", "b"), put("a", "b"))
	q, e := patch.Read(plain(p))
	if e != nil {
		t.Fatal(e)
	}
	seen := map[*string]bool{}
	for _, o := range q.Ops {
		for i := range o.Lines[:cap(o.Lines)] {
			at := &o.Lines[:cap(o.Lines)][i]
			if seen[at] {
				t.Fatal("two lists of an answer share their lines")
			}
			seen[at] = true
		}
	}
}

// R7: answers don't hang on the calls ahead.
func TestOneAnswer(t *testing.T) {
	p, bad := room(true), room(false)
	want, _ := patch.Inverse(p)
	for range 3 {
		asTheWordsSay(t, p)
		asTheWordsSay(t, bad)
		patch.Read(plain(p)[1:])
		if i, e := patch.Inverse(p); e != nil || !same(i, want) {
			t.Errorf("Inverse: %v, %v", i, e)
		}
	}
}

// P0: however much is handed in, each call ends and says what is so.
func TestMuch(t *testing.T) {
	l := slices.Repeat([]string{""}, 1<<20)
	long := strings.Repeat("0", 1<<26)
	for why, p := range map[string]api.Patch{
		"a note":          {Note: long},
		"a line":          with(0, put(long)),
		"lines":           with(0, put(l...)),
		"lines, again":    with(0, times(400, put(l...))...),
		"lines of others": with(1, api.Op{Kind: 4, A: line(0, 0), Lines: l}),
		"ops":             with(1, times(1<<20, del(line(0, 0)))...),
		"ops of lines":    with(0, times(1<<20, put(l...))...),
		"a name":          {Deps: []string{long}},
		"names":           {Deps: deps(1 << 18)},
		"one name":        {Deps: slices.Repeat([]string{dep(1)}, 1<<20)},
		"empty names":     {Deps: l},
		"names of a line": {Deps: slices.Repeat([]string{long}, 1<<20)},
	} {
		if patch.Right(p) || patch.Commute(p, p) {
			t.Errorf("%s: right", why)
		}
		if s, e := patch.Write(p); s != "" || !only(e, api.ErrPatch) {
			t.Errorf("%s: Write: %v", why, e)
		}
		if s, e := patch.Name(p); s != "" || !only(e, api.ErrPatch) {
			t.Errorf("%s: Name: %v", why, e)
		}
		if q, e := patch.Inverse(p); !none(q) || !only(e, api.ErrPatch) {
			t.Errorf("%s: Inverse: %v", why, e)
		}
		patch.Made(p)
	}
	for _, s := range []string{long, "(7:tambour" + long, strings.Repeat("(", 1<<24), "(7:tambour0:()(" + strings.Repeat("()", 1<<24) + "))"} {
		if q, e := patch.Read(s); !none(q) || !isFault(e) {
			t.Errorf("Read(%.40q): %v", s, e)
		}
	}
}

// P0, R6: numbers from one end of an int to the other, in each field.
func TestAnyNumbers(t *testing.T) {
	all := []int{math.MinInt, math.MinInt + 1, math.MinInt32, -1 << 31, -300, -3, -2, -1, 0, 1, 2, 5, 6, 63, 64, 299, 300, 301, 1 << 16, math.MaxInt32, 1 << 31, 1<<32 - 2, 1<<32 - 1, 1 << 32, 1<<32 + 1, math.MaxInt - 1, math.MaxInt}
	for _, n := range all {
		for _, m := range all {
			r := api.Ref{At: n, N: m}
			for kind := range 7 {
				for _, ahead := range []int{0, 3} {
					p := with(2, api.Op{Kind: kind, A: r}, api.Op{Kind: kind, A: r, B: line(1, 7)}, api.Op{Kind: kind, A: line(1, 7), B: r}, api.Op{Kind: kind, A: r, B: line(1, 7), Lines: []string{"a"}}, api.Op{Kind: kind, A: line(1, 7), B: r, Lines: []string{"a"}})
					for _, o := range p.Ops {
						q := with(2, o)
						if ahead > 0 {
							q.Ops = []api.Op{put("x", "y", "z"), o}
						}
						asTheWordsSay(t, q)
					}
				}
			}
			asTheWordsSay(t, with(1, api.Op{Kind: n, A: line(0, 0)}))
			asTheWordsSay(t, with(1, api.Op{Kind: n, A: line(0, 0), B: line(0, 1)}))
			asTheWordsSay(t, with(1, api.Op{Kind: n, A: line(0, 0), B: line(0, 1), Lines: []string{"a"}}))
		}
	}
}

// anyPatch is one that is right, or nearly: mistakes says out of how many parts one is wrong.
func anyPatch(r *rand.Rand, mistakes int) api.Patch {
	p := api.Patch{Note: strings.Repeat("n", r.Intn(5)), Deps: deps(r.Intn(5))}
	ahead := 0
	ref := func() api.Ref {
		if mistakes > 0 && r.Intn(mistakes) == 0 {
			return api.Ref{At: r.Intn(9) - 3, N: r.Intn(303) - 1}
		}
		if len(p.Deps) > 0 && r.Intn(2) == 0 {
			return line(r.Intn(len(p.Deps)), r.Intn(300))
		}
		if ahead > 0 && r.Intn(2) == 0 {
			return own(r.Intn(ahead))
		}
		return top
	}
	for range r.Intn(9) {
		o := api.Op{Kind: 1 + r.Intn(5), A: ref(), B: bottom}
		if r.Intn(2) == 0 {
			o.B = ref()
		}
		if o.B == top || o.B == o.A {
			o.B = bottom
		}
		if o.Kind == 1 {
			o.Lines = strings.Split(strings.Repeat("l ", r.Intn(4))+"l", " ")
		}
		if o.Kind > 3 {
			o.B = api.Ref{}
		}
		if o.Kind > 3 && o.A.At < 0 && (mistakes == 0 || r.Intn(mistakes) > 0) {
			continue
		}
		p.Ops = append(p.Ops, o)
		ahead += len(o.Lines)
	}
	return p
}

// P5.1, P5.2: many patches, of several ops, that are right and that aren't.
func TestAnyPatches(t *testing.T) {
	r := rand.New(rand.NewSource(5))
	right := 0
	for i := range 6000 {
		p := anyPatch(r, i%3*8)
		if isRight(p) {
			right++
		}
		asTheWordsSay(t, p)
	}
	if right < 2000 || right > 5500 {
		t.Errorf("%d of 6000 are right", right)
	}
}

// P0, P5.1, P5.2: of any bytes, and of patches made out of them.
func FuzzPatch(f *testing.F) {
	for _, s := range []string{"", "()", plain(api.Patch{}), plain(room(true)), plain(room(false)), plain(with(2, put("a"))), plain(with(1, del(line(0, 0))))} {
		f.Add(s, int64(0), 0)
	}
	f.Fuzz(func(t *testing.T, s string, seed int64, mistakes int) {
		readsAsTheWordsSay(t, s)
		asTheWordsSay(t, anyPatch(rand.New(rand.NewSource(seed)), max(mistakes, 0)))
		asTheWordsSay(t, api.Patch{Note: s})
		asTheWordsSay(t, with(0, put(s)))
		asTheWordsSay(t, api.Patch{Deps: []string{s}})
	})
}
