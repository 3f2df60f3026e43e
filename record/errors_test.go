package record_test

import (
	"errors"
	"slices"
	"strings"
	"testing"

	"tambour/api"
	"tambour/patch"
	"tambour/record"
)

// refused holds what Make answers of a set in all its orders: that error, and nothing beside it (R2).
func refused(t *testing.T, why string, set []api.Named, text, note string, want api.Errno) {
	t.Helper()
	for _, s := range turns(set) {
		if p, some, err := record.Make(s, text, note); !only(err, want) || some || !samePatch(p, api.Patch{}) {
			t.Errorf("%s: %.200s, %v, %v, want %v", why, told(p), some, err, want)
		}
	}
}

// tooBig are texts that layer 1 refuses, each by one of its limits.
func tooBig() map[string]string {
	return map[string]string{
		"a byte too many":           strings.Repeat(strings.Repeat("x", 500)+"\n", 16) + strings.Repeat("x", 177),
		"a line too many":           strings.Repeat("\n", 300),
		"a line of a byte too many": "a\n" + strings.Repeat("x", 501) + "\nb",
	}
}

// P11.1: the text's limits, and the note's.
func TestLimits(t *testing.T) {
	for why, text := range map[string]string{
		"all bytes":          strings.Repeat(strings.Repeat("x", 500)+"\n", 16) + strings.Repeat("x", 176),
		"all lines":          strings.Repeat("\n", 299),
		"a line of all":      "a\n" + strings.Repeat("x", 500) + "\nb",
		"all lines and more": strings.Repeat(strings.Repeat("x", 26)+"\n", 299) + strings.Repeat("x", 119),
	} {
		for _, set := range [][]api.Named{nil, setOf("1 +^,$:a"), setOf("2 +^,$:x | 3 +^,$:y")} {
			if _, some := asTheWordsSay(t, set, text, strings.Repeat("n", 100)); !some {
				t.Errorf("%s: no patch", why)
			}
		}
	}
	for why, text := range tooBig() {
		refused(t, why, nil, text, "", api.ErrBig)
		refused(t, why, setOf("1 +^,$:a | 21 -10"), text, "n", api.ErrBig)
	}
	refused(t, "a note too long", nil, "a", strings.Repeat("n", 101), api.ErrBig)
	refused(t, "a note too long", setOf("1 +^,$:a | 21 -10"), "a", strings.Repeat("\x00", 101), api.ErrBig)
	refused(t, "a note far too long", nil, "a", strings.Repeat("n", 1<<20), api.ErrBig)
}

// faulty are sets that layer 10 refuses.
func faulty() []struct {
	why, set string
	want     api.Errno
} {
	return []struct {
		why, set string
		want     api.Errno
	}{
		{"a name twice", "1 +^,$:a | 1 +^,$:a", api.ErrTwice},
		{"a name twice, beside all other faults", "1 | 1 | 23 | 4 ?^,$ | 54 -40", api.ErrTwice},
		{"a Dep that isn't there", "1 +^,$:a | 213 +10,$:x", api.ErrDep},
		{"a ring", "12 +^,$:a | 21 +^,$:b", api.ErrDep},
		{"itself", "11 +^,$:a", api.ErrDep},
		{"a patch that isn't right", "1 +^,$:a | 2 +^,^:x", api.ErrPatch},
		{"a line that is a marker", "1 +^,$:a,<<<<<<<,b", api.ErrPatch},
		{"a ref that means no line", "1 +^,$:a | 21 -11", api.ErrVertex},
	}
}

// P11.1, R1, R2: the set's own errors, alone and beside those that stand behind them.
func TestSetErrors(t *testing.T) {
	for _, c := range faulty() {
		for _, text := range []string{"", "a", "z", "a\n>>>>>>> order", strings.Repeat("\n", 299)} {
			refused(t, c.why, setOf(c.set), text, "n", c.want)
		}
	}
	refused(t, "the empty name", []api.Named{{}}, "a", "", api.ErrPatch)
	refused(t, "the empty name twice", []api.Named{{}, {}}, "a", "", api.ErrTwice)
	long := setOf("1")
	long[0].Patch.Note = strings.Repeat("n", 101)
	refused(t, "a Note too long in the set", long, "a", "", api.ErrPatch)
}

// P11.1, R1: the text and the note are asked ahead of the set, and ahead of what is shown.
func TestBigFirst(t *testing.T) {
	for _, c := range faulty() {
		for why, text := range tooBig() {
			refused(t, c.why+", "+why, setOf(c.set), text, "", api.ErrBig)
		}
		refused(t, c.why+", a note too long", setOf(c.set), "a", strings.Repeat("n", 101), api.ErrBig)
	}
	for why, text := range tooBig() {
		refused(t, why+", and a marker", nil, "<<<<<<<\n"+text, "", api.ErrBig)
	}
	refused(t, "a note too long, and a marker", nil, "<<<<<<<", strings.Repeat("n", 101), api.ErrBig)
	refused(t, "a note too long, and the text is what is shown", setOf("1 +^,$:a"), "a", strings.Repeat("n", 101), api.ErrBig)
	lines := strings.Repeat("x\n", 150) + "x"
	wide := setOf("1 +^,$:" + strings.ReplaceAll(lines, "\n", ",") + " | 21 +1150,$:" + strings.ReplaceAll(lines, "\n", ","))
	refused(t, "too many lines, and just these are shown", wide, lines+"\n"+lines, "", api.ErrBig)
}

// P11.1: a new line that is a marker: of each kind, at each place; but not one that isn't quite.
func TestMarker(t *testing.T) {
	for _, set := range []string{"", "1 +^,$:a,b", "2 +^,$:x | 3 +^,$:y", "1 +^,$:a,b >.1,.0", "1 +^,$:a,b | 21 +10,11:x | 31 -10"} {
		for _, marker := range []string{">>>>>>>", "=======", "<<<<<<<", ">>>>>>> order", "========", "<<<<<<<x"} {
			for _, text := range []string{marker, marker + "\na\nb", "a\n" + marker + "\nb", "a\nb\n" + marker, "\n" + marker, marker + "\n" + marker} {
				refused(t, set, setOf(set), text, "", api.ErrMarker)
			}
		}
		for _, line := range []string{">>>>>>", " =======", "<<<<<<=", "x<<<<<<<"} {
			if _, some := asTheWordsSay(t, setOf(set), "a\n"+line, ""); !some {
				t.Errorf("%s: %q: no patch", set, line)
			}
		}
	}
	both := setOf("2 +^,$:x | 3 +^,$:y")
	refused(t, "what is shown, and a line more", both, ">>>>>>> order\nx\n=======\ny\n<<<<<<<\nz", "", api.ErrMarker)
	refused(t, "what is shown, but a line", both, ">>>>>>> order\nx\n=======\n<<<<<<<", "", api.ErrMarker)
	refused(t, "what is shown, but a marker", both, ">>>>>>> order\nx\ny\n<<<<<<<", "", api.ErrMarker)
	refused(t, "another kind than what is shown", both, ">>>>>>> tangled\nx\n=======\ny\n<<<<<<<", "", api.ErrMarker)
}

// edge holds Make on a set that comes to just so many ops, or Deps, as there may be, and on one that comes to one more; a
// marker is told ahead of that (R1).
func edge(t *testing.T, why string, most, more []api.Named, text string) {
	t.Helper()
	if _, some := asTheWordsSay(t, most, text, ""); !some {
		t.Errorf("%s: no patch", why)
	}
	asTheWordsSay(t, more, text, "")
	refused(t, why, more, text, "", api.ErrBig)
	refused(t, why+", and a marker", more, text+"\n=======", "", api.ErrMarker)
}

// texts is a set of lines one behind the other, n of them.
func texts(n int) []api.Named {
	line := func(n int) []string { return slices.Repeat([]string{"x"}, n) }
	first := api.Patch{Ops: []api.Op{{Kind: api.OpNew, A: api.Ref{At: -1}, B: api.Ref{At: -1, N: 1}, Lines: line(200)}}}
	second := api.Patch{Deps: []string{digit('1')}, Ops: []api.Op{{Kind: api.OpNew, A: api.Ref{N: 199}, B: api.Ref{At: -1, N: 1}, Lines: line(n - 200)}}}
	return []api.Named{{Name: digit('1'), Patch: first}, {Name: digit('2'), Patch: second}}
}

// often is a set of these patches, and one more that has the op so often; it needs all of them.
func often(s string, op string, n int) []api.Named {
	set := setOf(s)
	deps := ""
	for _, p := range set {
		deps += p.Name[:1]
	}
	p := patchOf(deps, nil)
	p.Ops = slices.Repeat([]api.Op{opOf(op, deps)}, n)
	return append(set, api.Named{Name: digit('9'), Patch: p})
}

// beside is a set of n lines side by side, each of a patch of its own.
func beside(n int) []api.Named {
	var out []api.Named
	for i := range n {
		out = append(out, api.Named{Name: number(i), Patch: setOf("1 +^,$:x")[0].Patch})
	}
	return out
}

// behind is a set of a text a, b, and of n patches more, of these ops, which all need it.
func behind(n int, ops ...string) []api.Named {
	out := []api.Named{{Name: digit('1'), Patch: setOf("1 +^,$:a,b")[0].Patch}}
	for i := range n {
		out = append(out, api.Named{Name: number(i), Patch: patchOf("1", ops)})
	}
	return out
}

// P11.1: ErrBig of a patch that isn't right, as it has too many ops: of each kind.
func TestTooManyOps(t *testing.T) {
	edge(t, "Delete ops of many lines", texts(399), texts(400), "z")
	edge(t, "Delete ops of one line", often("1 +^,$:a", "*10", 398), often("1 +^,$:a", "*10", 399), "z")
	edge(t, "Join ops", often("1 +^,$:x | 2 +^,$:y", "/10,20", 399), often("1 +^,$:x | 2 +^,$:y", "/10,20", 400), "x\ny")
	twice := func(n int) []api.Named {
		set := often("1 +^,$:a,b >.1,.0", "*10", n)
		return append(set, api.Named{Name: digit('8'), Patch: patchOf("1", slices.Repeat([]string{"*11"}, 198))})
	}
	edge(t, "Delete ops of tangled lines", twice(199), twice(200), "a\nb")
	far := often("1 +^,$:a", "*10", 400)
	for _, d := range "2345678" {
		far = append(far, api.Named{Name: digit(byte(d)), Patch: often("1 +^,$:a", "*10", 400)[1].Patch})
	}
	refused(t, "far too many", far, "z", "", api.ErrBig)
	if _, some := asTheWordsSay(t, far, "a\nz", ""); !some {
		t.Error("a line that is kept takes no ops")
	}
}

// P11.1: ErrBig of a patch that isn't right, as it has too many Deps: of each kind.
func TestTooManyDeps(t *testing.T) {
	text := func(n int) string { return strings.Repeat("x\n", n-1) + "x" }
	refused(t, "Joins of 65 lines", beside(65), text(65), "", api.ErrBig)
	if _, some := asTheWordsSay(t, beside(64), text(64), ""); !some {
		t.Error("Joins of 64 lines: no patch")
	}
	edge(t, "Deletes of lines of many", beside(64), beside(65), "z")
	edge(t, "doubts of many", append(behind(63, "-10"), setOf("21 +10,11:x")...), append(behind(64, "-10"), setOf("21 +10,11:x")...), "x\nb")
	edge(t, "deleted by many", append(behind(62, "-10", "*10"), setOf("21 +10,11:x")...), append(behind(63, "-10", "*10"), setOf("21 +10,11:x")...), "x\nb")
	chain := func(n int) []api.Named {
		out := setOf("1 +^,$:a,b")
		for i := range n {
			p := api.Patch{Deps: []string{digit('1')}, Ops: []api.Op{opOf("+10,11:x", "1")}}
			if i > 0 {
				p.Deps = []string{number(i - 1), digit('1')}
				p.Ops = []api.Op{{Kind: api.OpNew, A: api.Ref{At: 1}, B: api.Ref{At: 0}, Lines: []string{"x"}}}
			}
			out = append(out, api.Named{Name: number(i), Patch: p})
		}
		return out
	}
	edge(t, "kept lines beside a deleted one", chain(63), chain(64), text(60)+"\nx\nx\nx\nb")
}

// P11.1: ErrBig of a patch that isn't right, as a Dep is no digest: a patch by which it goes must have such a name.
func TestNamesThatAreNone(t *testing.T) {
	for _, name := range []string{"x", strings.Repeat("1", 63), strings.Repeat("1", 65), strings.Repeat("A", 64), strings.Repeat("g", 64), "\x00"} {
		set := append(setOf("2 +^,$:b"), api.Named{Name: name, Patch: setOf("1 +^,$:a")[0].Patch})
		asTheWordsSay(t, set, "z", "")
		refused(t, "its line is deleted", set, "z", "", api.ErrBig)
		refused(t, "its line is joined", set, "b\na", "", api.ErrBig)
		refused(t, "its line stands beside a new one", set, "b\nz\na", "", api.ErrBig)
		if _, some := asTheWordsSay(t, set, "a", ""); !some {
			t.Error("its line is kept: no patch")
		}
		doubted := setOf("1 +^,$:a,b | 21 +10,11:x | 31 -10")
		doubted[2].Name = name
		refused(t, "it has a doubt", doubted, "x\nb", "", api.ErrBig)
		kept := setOf("1 +^,$:a,b | 21 +10,11:x")
		kept[1].Name = name
		refused(t, "its line stands beside one that goes", kept, "x\nb", "", api.ErrBig)
		deleted := setOf("1 +^,$:a,b | 21 +10,11:x | 31 -10 *10")
		deleted[2].Name = name
		refused(t, "it has deleted what goes", deleted, "x\nb", "", api.ErrBig)
	}
}

// P11.1: the error is a Fault, the outermost one of which is record's, and wraps what came from below.
func TestFault(t *testing.T) {
	for _, c := range []struct {
		set, text, note string
		want            api.Errno
	}{
		{"", strings.Repeat("\n", 300), "", api.ErrBig},
		{"", "", strings.Repeat("n", 101), api.ErrBig},
		{"1 | 1", "", "", api.ErrTwice},
		{"21", "", "", api.ErrDep},
		{"2 ?^,$", "", "", api.ErrPatch},
		{"1 | 21 -10", "", "", api.ErrVertex},
		{"", "<<<<<<<", "", api.ErrMarker},
		{"1 +^,$:a | 21" + strings.Repeat(" *10", 400), "z", "", api.ErrBig},
	} {
		_, _, err := record.Make(setOf(c.set), c.text, c.note)
		var f *api.Fault
		if !errors.As(err, &f) || f != err || f.What != "record" || !only(f, c.want) {
			t.Errorf("%.100s: %v, want %v", c.set, err, c.want)
		}
	}
}

// P11.1: the heads are among the Deps where a patch of that name is there already, and only there.
func TestHeads(t *testing.T) {
	first := put(t, nil, "a")
	gone, _ := undo(t, first)
	again := put(t, gone, "a")
	if d := again[2].Patch.Deps; len(d) != 1 || d[0] != gone[1].Name {
		t.Errorf("%.200q, want %q", d, gone[1].Name)
	}
	if p, some, err := record.Make(gone, "a", "another note"); len(p.Deps) != 0 || !some || err != nil {
		t.Errorf("another note: %s", told(p))
	}
	if p, some, err := record.Make(gone, "b", ""); len(p.Deps) != 0 || !some || err != nil {
		t.Errorf("another text: %s", told(p))
	}
	wide := slices.Concat(gone, setOf("1 | 21 | 31"))
	want := append([]string{gone[1].Name}, digit('2'), digit('3'))
	slices.Sort(want)
	if d := put(t, wide, "a")[5].Patch.Deps; !slices.Equal(d, want) {
		t.Errorf("%.300q, want %.300q", d, want)
	}
	third, _ := undo(t, again)
	if d := put(t, third, "a")[4].Patch.Deps; len(d) != 1 || d[0] != third[3].Name {
		t.Errorf("%.200q, want %q", d, third[3].Name)
	}
}

// P11.1: the heads beside other Deps: what the refs mean hangs on the places of these.
func TestHeadsBesideDeps(t *testing.T) {
	for i := range 20 {
		note := strings.Repeat("n", i)
		second := put(t, with(t, nil, api.Patch{Note: note, Ops: []api.Op{opOf("+^,$:a,c", "")}}), "a\nb\nc")
		back, _ := undo(t, second)
		set := put(t, back, "a\nb\nc")
		want := []string{back[0].Name, back[2].Name}
		slices.Sort(want)
		if p := set[3].Patch; !slices.Equal(p.Deps, want) || len(p.Ops) != 1 || p.Deps[p.Ops[0].A.At] != back[0].Name {
			t.Errorf("%d: %s", i, told(p))
		}
	}
}

// P11.1: names are taken as they are told: of one that is there it is asked whoever has it; and the heads' names must be
// right ones, and not too many.
func TestHeadsTold(t *testing.T) {
	p := api.Patch{Ops: []api.Op{opOf("+^,$:a", "")}}
	name, _ := patch.Name(p)
	set := []api.Named{{Name: name, Patch: api.Patch{Note: "another one"}}}
	if q, some := asTheWordsSay(t, set, "a", ""); !some {
		t.Error("no patch", q)
	}
	if q, _, _ := record.Make(set, "a", ""); len(q.Deps) != 1 || q.Deps[0] != name {
		t.Error(told(q))
	}
	refused(t, "a head whose name is no digest", append(set, api.Named{Name: "x"}), "a", "", api.ErrBig)
	for _, n := range []int{63, 64} {
		wide := slices.Clone(set)
		for i := range n {
			wide = append(wide, api.Named{Name: number(i)})
		}
		if _, some := asTheWordsSay(t, wide, "a", ""); some != (n == 63) {
			t.Errorf("%d heads: %v", n+1, some)
		}
		if _, some := asTheWordsSay(t, wide, "a", "n"); !some {
			t.Errorf("%d heads, another name: no patch", n+1)
		}
	}
}
