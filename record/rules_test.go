package record_test

import (
	"fmt"
	"math/rand"
	"slices"
	"strings"
	"sync"
	"testing"
	"time"

	"tambour/api"
	"tambour/patch"
	"tambour/record"
	"tambour/render"
)

// task is a set, and a text that is recorded on it.
type task struct{ set, text string }

// unlike are tasks of each kind: ops of each kind, conflicts of each kind and none, each error, and no patch.
func unlike() []task {
	return []task{
		{"", "a,b"}, {"", ""}, {"1 +^,$:a,b", "a,b"}, {"1 +^,$:a,b,c", "x,b,y,z"}, {"1 +^,$:a,b | 21 *10 *10", "b"},
		{"2 +^,$:x | 3 +^,$:y", "x,y"}, {"2 +^,$:x | 3 +^,$:y", "x,n,y,m"}, {"1 +^,$:x | 2 +^,$:y | 312 /10,20 /10,20", "x,y"},
		{"1 +^,$:a,b,c,d | 21 >11,10 +12,13:x | 31 +11,12:p -13 | 41 +11,12:q", "b,new,a,p,q,two,new,c,x"},
		{"1 +^,$:a,b | 21 +10,11:x | 31 -10 *10 | 41 -11", "x,b"},
		{"1 | 1", "a"}, {"21", "a"}, {"1 +^,^:a", "a"}, {"1 | 21 -10", "a"}, {"1 +^,$:a", "======="},
	}
}

// roomy is a set each list of which has room behind it, and what stands in that room too.
func roomy(set []api.Named) (in, whole []api.Named) {
	whole = append(clone(set), setOf("9 +^,$:room | 8")...)
	in = slices.Clone(whole)
	for i, p := range whole {
		deps, ops := append(p.Patch.Deps, "room"), append(p.Patch.Ops, opOf("+^,$:room", ""), opOf("-10", "1"))
		for j, o := range ops {
			ops[j].Lines = append(o.Lines, "room", "more")
		}
		whole[i].Patch.Deps, whole[i].Patch.Ops = deps, ops
		short := slices.Clone(ops)
		for j, o := range short {
			short[j].Lines = o.Lines[:len(o.Lines)-2]
		}
		in[i].Patch.Deps, in[i].Patch.Ops = deps[:len(deps)-1], short[:len(short)-2]
	}
	return in[:len(set)], whole
}

// R4: what is handed in is not changed, the room behind it neither.
func TestArgumentsUnchanged(t *testing.T) {
	for _, c := range unlike() {
		set, whole := roomy(setOf(c.set))
		all := set[:cap(set)]
		var room [][]api.Op
		for _, p := range all {
			room = append(room, p.Patch.Ops[:cap(p.Patch.Ops)])
		}
		was, wasWhole, wasRoom := clone(all), clone(whole), make([][]api.Op, len(room))
		for i, ops := range room {
			wasRoom[i] = slices.Clone(ops)
		}
		for range 3 {
			record.Make(set, lay(c.text), "n")
			if !equal(set, setOf(c.set)) || !equal(all, was) || !equal(whole, wasWhole) {
				t.Errorf("%s: %s: now %s", c.set, c.text, plain(whole))
			}
			for i, ops := range room {
				if !slices.EqualFunc(ops, wasRoom[i], func(o, x api.Op) bool { return o.Kind == x.Kind && o.A == x.A && o.B == x.B }) {
					t.Errorf("%s: %s: behind the ops of %d: %v", c.set, c.text, i, ops)
				}
			}
		}
	}
}

// answer tells all that Make answers.
func answer(set []api.Named, text string) string {
	p, some, err := record.Make(set, text, "n")
	return fmt.Sprintf("%s; %q; %v, %v", told(p), p.Note, some, err)
}

// spoil writes to a list, and behind it.
func spoil[T any](l []T, with T) {
	l = l[:cap(l)]
	for i := range l {
		l[i] = with
	}
}

// R4: what is answered is memory of its own: whoever writes to it, and behind it, changes neither what was handed in nor
// another answer, nor another list of the same answer.
func TestAnswersApart(t *testing.T) {
	for _, c := range unlike() {
		set, text := setOf(c.set), lay(c.text)
		want := answer(set, text)
		first, _, _ := record.Make(set, text, "n")
		second, _, _ := record.Make(set, text, "n")
		kept := clonePatch(second)
		for i := range first.Ops {
			spoil(first.Ops[i].Lines, "spoilt")
			if rest := (api.Patch{Note: "n", Deps: first.Deps, Ops: first.Ops[i+1:]}); len(rest.Ops) > 0 && !samePatch(rest, api.Patch{Note: "n", Deps: kept.Deps, Ops: kept.Ops[i+1:]}) {
				t.Errorf("%s: %s: %s, once the lines of op %d are spoilt", c.set, c.text, told(first), i)
			}
		}
		spoil(first.Ops, api.Op{Kind: 9})
		spoil(first.Deps, "spoilt")
		if !samePatch(second, kept) || answer(set, text) != want || !equal(set, setOf(c.set)) {
			t.Errorf("%s: %s: %s, once an answer is spoilt: %s", c.set, c.text, want, answer(set, text))
		}
	}
}

// R4, R7: what is handed in is not kept: an answer stays, whatever becomes of it and whatever is asked next, and the next
// one hangs on its own arguments.
func TestNotKept(t *testing.T) {
	set := setOf("1 +^,$:a,b | 21 +10,11:x | 31 -10")
	p, _, _ := record.Make(set, "x\nb\nc", "n")
	kept := clonePatch(p)
	set[0].Patch.Ops[0].Lines[1] = "c"
	set[1].Name = digit('4')
	set[2].Patch.Ops[0].A.N = 1
	for _, c := range unlike() {
		answer(setOf(c.set), lay(c.text))
	}
	if got := answer(set, "x\nb\nc"); got != `134 -10 +40,$:b,c; "n"; true, <nil>` {
		t.Error(got)
	}
	if !samePatch(p, kept) || told(p) != "123 +11,$:c" {
		t.Error(told(p))
	}
}

// R7: one answer, however often it is asked for, whatever was asked ahead, and by however many at once.
func TestOneAnswer(t *testing.T) {
	var want []string
	var shared [][]api.Named
	for _, c := range unlike() {
		set := setOf(c.set)
		want, shared = append(want, answer(set, lay(c.text))), append(shared, set)
	}
	var all sync.WaitGroup
	for range 8 {
		all.Go(func() {
			for range 20 {
				for i, c := range unlike() {
					if got, again := answer(setOf(c.set), lay(c.text)), answer(shared[i], lay(c.text)); got != want[i] || again != want[i] {
						t.Errorf("%s: %s: %s, and then %s, %s", c.set, c.text, want[i], got, again)
					}
				}
			}
		})
	}
	all.Wait()
}

// P0: patches of nothing, of kinds, refs and names that can't be.
func TestAnything(t *testing.T) {
	far := []int{-1 << 63, -3, -2, -1, 0, 1, 300, 1<<63 - 1}
	var refs []api.Ref
	for _, at := range far {
		for _, n := range far {
			refs = append(refs, api.Ref{At: at, N: n})
		}
	}
	for kind := -1; kind < 8; kind++ {
		for i, r := range refs {
			for _, q := range []api.Ref{{}, {At: -1, N: 1}, {At: -2}, refs[(i*7+5)%len(refs)]} {
				for _, lines := range [][]string{nil, {"x"}} {
					set := setOf("1 +^,$:a | 21 +^,$:b | 31 -10")
					set[1].Patch.Ops = append(set[1].Patch.Ops, api.Op{Kind: kind, A: r, B: q, Lines: lines})
					asTheWordsSay(t, set, "x\nb\nc", "")
				}
			}
		}
	}
	for _, set := range [][]api.Named{{{}}, {{}, {}}, make([]api.Named, 1000), {{Name: "a", Patch: api.Patch{Deps: make([]string, 100)}}}, {{Name: "a", Patch: api.Patch{Ops: make([]api.Op, 100)}}}} {
		asTheWordsSay(t, set, "x", "")
	}
}

// P0, P11.1, P11.2: texts and notes of any bytes.
func TestAnyBytes(t *testing.T) {
	r := rand.New(rand.NewSource(14))
	const some = "\x00\xff\n\n\r a=><\xc3\xa9"
	bytes := func(n int) string {
		b := make([]byte, n)
		for i := range b {
			b[i] = some[r.Intn(len(some))]
		}
		return string(b)
	}
	set := setOf("1 +^,$:a,b | 21 +10,11:x | 31 -10")
	for range 2000 {
		asTheWordsSay(t, set, bytes(r.Intn(40)), bytes(r.Intn(105)))
	}
}

// quick is what comes of a text on a big set, and of that set told from its end on.
func quick(t *testing.T, why string, set []api.Named, text string) (api.Patch, bool, error) {
	t.Helper()
	begun := time.Now()
	p, some, err := record.Make(set, text, "")
	back := slices.Clone(set)
	slices.Reverse(back)
	q, again, fault := record.Make(back, text, "")
	if !samePatch(p, q) || some != again || fmt.Sprint(err) != fmt.Sprint(fault) {
		t.Errorf("%s: %.200s, %v, %v, and back %.200s, %v, %v", why, told(p), some, err, told(q), again, fault)
	}
	if some {
		v, _ := render.Show(with(t, set, p))
		if render.Text(v) != text || len(v.Conflicts) > 0 {
			t.Errorf("%s: %.200q, want %.200q", why, render.Text(v), text)
		}
	}
	if d := time.Since(begun); d > 30*time.Second {
		t.Errorf("%s: %v", why, d)
	}
	return p, some, err
}

// P0, P11.1, P11.2: sets with many patches, many lines and many doubts.
func TestBig(t *testing.T) {
	named := func(i int, s string) api.Named { return api.Named{Name: number(i), Patch: setOf(s)[0].Patch} }
	needs := func(p api.Named, i int) api.Named {
		p.Patch.Deps = []string{number(i)}
		return p
	}
	const many = 20000
	chain := []api.Named{named(0, "0 +^,$:a")}
	for i := 1; i < many; i++ {
		chain = append(chain, needs(named(i, "10 +00,$:b -00"), i-1))
	}
	if p, some, err := quick(t, "a chain of which each deletes the line ahead of it", chain, "x\nb\ny"); len(p.Ops) != 2 || len(p.Deps) != 1 || !some || err != nil {
		t.Errorf("%s, %v, %v", told(p), some, err)
	}
	var wide []api.Named
	for i := range 100 {
		wide = append(wide, named(i, "1 +^,$:"+strings.Repeat("x,", 299)+"x"))
	}
	if _, some, err := quick(t, "a hundred texts side by side", wide, "x"); some || !only(err, api.ErrBig) {
		t.Error(some, err)
	}
	full := "x" + strings.Repeat("\nx", 299)
	if _, some, err := quick(t, "a text, once more", wide[:1], "y\n"+full[2:]); !some || err != nil {
		t.Error(some, err)
	}
	text := []api.Named{named(0, "0 +^,$:"+strings.Repeat("a,", 299)+"a")}
	for i := 1; i < 62; i++ {
		p := needs(named(i, "10"), 0)
		p.Patch.Ops = []api.Op{opOf(fmt.Sprintf("+0%d,0%d:y", i, i+1), "0"), opOf(fmt.Sprintf("-0%d", i+1), "0"), opOf(fmt.Sprintf("*0%d", i+1), "0")}
		text = append(text, p)
	}
	if p, some, err := quick(t, "a line of each of many patches, and another text", text, strings.Repeat("b\n", 200)+"b"); len(p.Deps) != 62 || len(p.Ops) != 362 || !some || err != nil {
		t.Errorf("%d, %d, %v, %v", len(p.Deps), len(p.Ops), some, err)
	}
	pairs := []api.Named{named(0, "0 +^,$:a,b")}
	for i := 1; i < many; i++ {
		pairs = append(pairs, needs(named(i, "10 -00 *00"), 0))
	}
	pairs = append(pairs, needs(named(many, "10 +00,01:x"), 0))
	if _, some, err := quick(t, "many that have deleted the same", pairs, "x\nb"); some || !only(err, api.ErrBig) {
		t.Error(some, err)
	}
	if p, some, err := quick(t, "many that have deleted the same, and it is kept", pairs, "a\nb"); told(p) == "" || !some || err != nil {
		t.Error(told(p), some, err)
	}
}

// P11.1: as many patches as a repository takes, each recorded on those ahead of it.
func TestManyRecorded(t *testing.T) {
	var set []api.Named
	l := []string{"a"}
	for i := range api.MaxPatches {
		switch i % 4 {
		case 0, 1:
			l = slices.Insert(l, i/2%len(l), fmt.Sprint("line ", i))
		case 2:
			l[i%len(l)] = fmt.Sprint("other ", i)
		case 3:
			l = slices.Delete(l, i%len(l), i%len(l)+1)
		}
		text := strings.Join(l, "\n")
		p, some, err := record.Make(set, text, fmt.Sprint(i))
		if !some || err != nil {
			t.Fatal(i, some, err)
		}
		set = with(t, set, p)
		if v := show(t, set); render.Text(v) != text || len(v.Conflicts) > 0 {
			t.Fatalf("%d: %q, want %q", i, render.Text(v), text)
		}
	}
	bytes, _ := patch.Write(set[api.MaxPatches-1].Patch)
	if len(bytes) > 1000 {
		t.Errorf("%d bytes for a line", len(bytes))
	}
}
