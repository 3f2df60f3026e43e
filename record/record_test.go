package record_test

import (
	"errors"
	"fmt"
	"slices"
	"strconv"
	"strings"
	"testing"

	"tambour/api"
	"tambour/patch"
	"tambour/record"
)

// digit is a name that a right patch may need, told in tests by its one digit.
func digit(b byte) string {
	return strings.Repeat(string(b), 64)
}

// number is such a name of a great set.
func number(i int) string {
	return fmt.Sprintf("%064x", i)
}

// refOf reads a ref of a patch with these Deps (a digit each): ^ the top, $ the bottom, .3 its own line 3, a3 line 3 of
// the patch a.
func refOf(s, deps string) api.Ref {
	switch {
	case s == "":
		return api.Ref{}
	case s == "^":
		return api.Ref{At: -1}
	case s == "$":
		return api.Ref{At: -1, N: 1}
	}
	n, err := strconv.Atoi(s[1:])
	if err != nil {
		n = -1
	}
	if s[0] == '.' {
		return api.Ref{At: -2, N: n}
	}
	at := strings.IndexByte(deps, s[0])
	if at < 0 {
		at = api.MaxDeps
	}
	return api.Ref{At: at, N: n}
}

// opOf reads an op: +A,B:x,y a New with two lines, >A,B a Join, /A,B a Cut, -A a Delete, *A a Revive.
func opOf(s, deps string) api.Op {
	between, lines, put := strings.Cut(s[1:], ":")
	a, b, _ := strings.Cut(between, ",")
	o := api.Op{Kind: strings.IndexByte("+>/-*", s[0]) + 1, A: refOf(a, deps), B: refOf(b, deps)}
	if put {
		o.Lines = strings.Split(lines, ",")
	}
	return o
}

// patchOf reads a patch: the digits of its Deps, if it has some, then its ops.
func patchOf(deps string, ops []string) api.Patch {
	var p api.Patch
	for i := range len(deps) {
		p.Deps = append(p.Deps, digit(deps[i]))
	}
	for _, o := range ops {
		p.Ops = append(p.Ops, opOf(o, deps))
	}
	return p
}

// setOf reads a set, its patches parted by |: of each the digit of its name and those of its Deps, then its ops.
func setOf(s string) []api.Named {
	var out []api.Named
	for p := range strings.SplitSeq(s, "|") {
		if words := strings.Fields(p); len(words) > 0 {
			out = append(out, api.Named{Name: digit(words[0][0]), Patch: patchOf(words[0][1:], words[1:])})
		}
	}
	return out
}

// lay reads a text, its lines parted by commas.
func lay(s string) string {
	return strings.ReplaceAll(s, ",", "\n")
}

// brief tells a name as setOf reads it.
func brief(name string) string {
	if len(name) == 64 && name == digit(name[0]) {
		return name[:1]
	}
	return fmt.Sprintf("%.80q", name)
}

// refTold tells a ref of a patch with these Deps.
func refTold(r api.Ref, deps []string) string {
	switch {
	case r == api.Ref{At: -1}:
		return "^"
	case r == api.Ref{At: -1, N: 1}:
		return "$"
	case r.At == -2:
		return "." + strconv.Itoa(r.N)
	case r.At >= 0 && r.At < len(deps):
		return brief(deps[r.At]) + strconv.Itoa(r.N)
	}
	return fmt.Sprintf("%v", r)
}

// opTold tells an op as opOf reads it.
func opTold(o api.Op, deps []string) string {
	if o.Kind < 1 || o.Kind > 5 {
		return fmt.Sprintf("%+v", o)
	}
	told := "+>/-*"[o.Kind-1:o.Kind] + refTold(o.A, deps)
	if o.Kind < api.OpDelete || o.B != (api.Ref{}) {
		told += "," + refTold(o.B, deps)
	}
	if len(o.Lines) > 0 {
		told += ":" + strings.Join(o.Lines, ",")
	}
	return told
}

// told tells a patch as patchOf reads it.
func told(p api.Patch) string {
	var words []string
	deps := ""
	for _, d := range p.Deps {
		deps += brief(d)
	}
	if deps != "" {
		words = append(words, deps)
	}
	for _, o := range p.Ops {
		words = append(words, opTold(o, p.Deps))
	}
	return strings.Join(words, " ")
}

// plain tells a set for a test's words.
func plain(set []api.Named) string {
	var out []string
	for _, p := range set {
		out = append(out, brief(p.Name)+": "+told(p.Patch))
	}
	return strings.Join(out, " | ")
}

// clonePatch is a patch in memory of its own.
func clonePatch(p api.Patch) api.Patch {
	p.Deps, p.Ops = slices.Clone(p.Deps), slices.Clone(p.Ops)
	for i, o := range p.Ops {
		p.Ops[i].Lines = slices.Clone(o.Lines)
	}
	return p
}

// clone is a set in memory of its own.
func clone(set []api.Named) []api.Named {
	out := slices.Clone(set)
	for i, p := range out {
		out[i].Patch = clonePatch(p.Patch)
	}
	return out
}

// samePatch holds patches against each other; an empty list may be nil or not.
func samePatch(p, q api.Patch) bool {
	return p.Note == q.Note && slices.Equal(p.Deps, q.Deps) && slices.EqualFunc(p.Ops, q.Ops, func(o, x api.Op) bool {
		return o.Kind == x.Kind && o.A == x.A && o.B == x.B && slices.Equal(o.Lines, x.Lines)
	})
}

// equal holds sets against each other.
func equal(a, b []api.Named) bool {
	return slices.EqualFunc(a, b, func(p, q api.Named) bool { return p.Name == q.Name && samePatch(p.Patch, q.Patch) })
}

// only says whether e is the error n and no other one, as a Fault with the What record; for api.OK, whether it is nil.
func only(e error, n api.Errno) bool {
	if n == api.OK {
		return e == nil
	}
	for i := range api.Errno(100) {
		if errors.Is(e, i) != (i == n) {
			return false
		}
	}
	var got api.Errno
	var f *api.Fault
	return errors.As(e, &got) && got == n && errors.As(e, &f) && f.What == "record" && errors.Is(f.Err, n)
}

// turns are all orders of a small set, some of a greater one.
func turns(set []api.Named) [][]api.Named {
	if len(set) <= 1 {
		return [][]api.Named{set}
	}
	if len(set) > 4 {
		back := slices.Clone(set)
		slices.Reverse(back)
		half := len(set) / 2
		return [][]api.Named{set, back, slices.Concat(set[half:], set[:half]), slices.Concat(back[half:], back[:half])}
	}
	var out [][]api.Named
	for i, p := range set {
		for _, rest := range turns(slices.Concat(set[:i], set[i+1:])) {
			out = append(out, slices.Concat([]api.Named{p}, rest))
		}
	}
	return out
}

// with is the set with the patch, under its name.
func with(t *testing.T, set []api.Named, p api.Patch) []api.Named {
	t.Helper()
	name, err := patch.Name(p)
	if err != nil {
		t.Fatalf("%.500s isn't right", told(p))
	}
	return append(slices.Clone(set), api.Named{Name: name, Patch: p})
}

// put records a text on the set, which is to answer a patch, and holds it against the chapter's words.
func put(t *testing.T, set []api.Named, text string) []api.Named {
	t.Helper()
	asTheWordsSay(t, set, text, "")
	p, some, err := record.Make(set, text, "")
	if err != nil || !some {
		t.Fatalf("%.500s: %.200q: %v, %v", plain(set), text, some, err)
	}
	return with(t, set, p)
}

// scene is a set, a text that is recorded on it (its lines parted by commas), and the patch that comes of it.
type scene struct{ why, set, text, want string }

func play(t *testing.T, scenes []scene) {
	t.Helper()
	for _, s := range scenes {
		set := setOf(s.set)
		for _, order := range turns(set) {
			asTheWordsSay(t, order, lay(s.text), "n")
			p, some, err := record.Make(order, lay(s.text), "n")
			if told(p) != s.want || p.Note != "n" || !some || err != nil {
				t.Errorf("%s: %s: %s; %v, %v, want %s", s.why, plain(order), told(p), some, err, s.want)
			}
		}
	}
}

// P11.1: the chapter's examples.
func TestExamples(t *testing.T) {
	first := api.Patch{Note: "one", Ops: []api.Op{{Kind: api.OpNew, A: api.Ref{At: -1}, B: api.Ref{At: -1, N: 1}, Lines: []string{"a", "b"}}}}
	p, some, err := record.Make(nil, "a\nb", "one")
	if !samePatch(p, first) || !some || err != nil {
		t.Fatal(p, some, err)
	}
	set := with(t, nil, p)
	second := api.Patch{Note: "two", Deps: []string{set[0].Name}, Ops: []api.Op{{Kind: api.OpDelete, A: api.Ref{At: 0}}}}
	p, some, err = record.Make(set, "b", "two")
	if !samePatch(p, second) || !some || err != nil {
		t.Fatal(p, some, err)
	}
	p, some, err = record.Make(with(t, set, p), "b", "three")
	if !samePatch(p, api.Patch{}) || some || err != nil {
		t.Error(p, some, err)
	}
}

// P11.1: no patch, where the text is what is shown, whatever the note.
func TestNoPatch(t *testing.T) {
	for _, c := range []struct{ set, text string }{
		{"", ""},
		{"1", ""},
		{"1 +^,$:", ""},
		{"1 +^,$:,", ","},
		{"1 +^,$:a,b | 21 -10 -11", ""},
		{"1 +^,$:a", "a"},
		{"1 +^,$:a,", "a,"},
		{"1 +^,$:a,b,c", "a,b,c"},
		{"1 +^,$:a,b,c | 21 +10,11:x | 32 -20", "a,b,c"},
		{"2 +^,$:x | 3 +^,$:y", ">>>>>>> order,x,=======,y,<<<<<<<"},
		{"1 +^,$:a,b | 21 >11,10", ">>>>>>> tangled,a,b,<<<<<<<"},
		{"1 +^,$:a,b | 21 +10,11:x | 31 -10", ">>>>>>> doubtful,x,<<<<<<<,b"},
	} {
		for _, set := range turns(setOf(c.set)) {
			for _, note := range []string{"", "n", strings.Repeat("n", 100)} {
				asTheWordsSay(t, set, lay(c.text), note)
				if p, some, err := record.Make(set, lay(c.text), note); some || err != nil || !samePatch(p, api.Patch{}) {
					t.Errorf("%s: %q: %s, %v, %v", c.set, c.text, told(p), some, err)
				}
			}
		}
	}
	for _, set := range [][]api.Named{nil, {}, make([]api.Named, 0, 9)} {
		if p, some, err := record.Make(set, "", ""); some || err != nil || !samePatch(p, api.Patch{}) {
			t.Error(told(p), some, err)
		}
	}
}

// P11.1: the note is taken as it is.
func TestNote(t *testing.T) {
	for _, note := range []string{"", "n", "\x00\xff\n", ">>>>>>> order", strings.Repeat("n", 100)} {
		if p, some, err := record.Make(setOf("1 +^,$:a"), "b", note); p.Note != note || told(p) != "1 -10 +^,$:b" || !some || err != nil {
			t.Errorf("%q: %q, %s, %v, %v", note, p.Note, told(p), some, err)
		}
	}
}

// P11.1: New ops at each place.
func TestNew(t *testing.T) {
	play(t, []scene{
		{"of nothing", "", "a,b", "+^,$:a,b"},
		{"an empty line at the end", "", "a,", "+^,$:a,"},
		{"two empty lines", "", ",", "+^,$:,"},
		{"a patch without lines", "1", "a", "+^,$:a"},
		{"all lines are deleted", "1 +^,$:a,b | 21 -10 -11", "c", "+^,$:c"},
		{"at the top", "1 +^,$:b", "a,b", "1 +^,10:a"},
		{"several at the top", "1 +^,$:c", "a,b,c", "1 +^,10:a,b"},
		{"at the bottom", "1 +^,$:a", "a,b", "1 +10,$:b"},
		{"several at the bottom", "1 +^,$:a", "a,b,c", "1 +10,$:b,c"},
		{"in the middle", "1 +^,$:a,b", "a,x,b", "1 +10,11:x"},
		{"several between two", "1 +^,$:a,b", "a,x,y,z,b", "1 +10,11:x,y,z"},
		{"at all places", "1 +^,$:b,d", "a,b,c,d,e", "1 +^,10:a +10,11:c +11,$:e"},
		{"none is kept", "1 +^,$:a,b", "x,y", "1 -10 -11 +^,$:x,y"},
		{"the empty text in place of a line", "1 +^,$:a", "", "1 -10 +^,$:"},
		{"in place of one", "1 +^,$:a,b,c", "a,x,c", "1 -11 +10,12:x"},
		{"in place of the first one", "1 +^,$:a,b", "x,b", "1 -10 +^,11:x"},
		{"in place of the last one", "1 +^,$:a,b", "a,x", "1 -11 +10,$:x"},
		{"several in place of several", "1 +^,$:a,b,c,d", "a,x,y,z,d", "1 -11 -12 +10,13:x,y,z"},
		{"between lines of unlike patches", "1 +^,$:a,b | 21 +10,11:x", "a,p,x,q,b", "12 +10,20:p +20,11:q"},
		{"between lines of which other ones are deleted", "1 +^,$:a,b,c | 21 -11", "a,x,c", "1 +10,12:x"},
		{"two sides with a line between them", "2 +^,$:x | 3 +^,$:y", "x,n,y", "23 +20,30:n"},
		{"two sides with a line ahead of them", "2 +^,$:x | 3 +^,$:y", "n,x,y", "23 +^,20:n >20,30"},
		{"two sides with a line behind them", "2 +^,$:x | 3 +^,$:y", "x,y,n", "23 >20,30 +30,$:n"},
		{"a marker but for a byte", "", ">>>>>>,======,<<<<<<, >>>>>>>", "+^,$:>>>>>>,======,<<<<<<, >>>>>>>"},
	})
}

// P11.1: Delete ops, so many that a line isn't alive any more.
func TestDelete(t *testing.T) {
	play(t, []scene{
		{"one", "1 +^,$:a,b,c", "a,c", "1 -11"},
		{"the first one", "1 +^,$:a,b,c", "b,c", "1 -10"},
		{"the last one", "1 +^,$:a,b,c", "a,b", "1 -12"},
		{"several", "1 +^,$:a,b,c,d,e", "b,d", "1 -10 -12 -14"},
		{"as they are shown, not by their places", "1 +^,$:a,d | 21 +10,11:b", "a", "12 -20 -11"},
		{"deleted and revived", "1 +^,$:a,b | 21 -10 | 312 *10", "b", "1 -10"},
		{"revived once more", "1 +^,$:a,b | 21 *10", "b", "1 -10 -10"},
		{"revived by several", "1 +^,$:a,b,c | 21 *11 *11 | 31 *11 -11", "a,c", "1 -11 -11 -11"},
		{"of two that are cut one was revived", "1 +^,$:a,b,c | 21 *10", "c", "1 -10 -10 -11"},
		{"a line that is revived is kept", "1 +^,$:a,b | 21 *10 *10", "a", "1 -11"},
		{"a deleted line isn't deleted once more", "1 +^,$:a,b,c | 21 -11", "a", "1 -12"},
		{"a side of two", "2 +^,$:x | 3 +^,$:y", "y", "2 -20"},
		{"both sides", "2 +^,$:x | 3 +^,$:y", "z", "23 -20 -30 +^,$:z"},
	})
}

// P11.1: tangled lines, cut and laid anew.
func TestTangled(t *testing.T) {
	play(t, []scene{
		{"laid anew", "1 +^,$:a,b >.1,.0", "a,b", "1 -10 -11 +^,$:a,b"},
		{"in the other order", "1 +^,$:a,b >.1,.0", "b,a", "1 -10 -11 +^,$:b,a"},
		{"between lines", "1 +^,$:a,b,c,d >.2,.1", "a,b,c,d", "1 -11 -12 +10,13:b,c"},
		{"between lines, in the other order", "1 +^,$:a,b,c,d >.2,.1", "a,c,b,d", "1 -11 -12 +10,13:c,b"},
		{"one is cut", "1 +^,$:a,b,c,d >.2,.1", "a,c,d", "1 -11 -12 +10,13:c"},
		{"all are cut", "1 +^,$:a,b,c,d >.2,.1", "a,d", "1 -11 -12"},
		{"one is cut, a line is put in its place", "1 +^,$:a,b,c,d >.2,.1", "a,x,c,d", "1 -11 -12 +10,13:x,c"},
		{"a line between them", "1 +^,$:a,b,c,d >.2,.1", "a,b,x,c,d", "1 -11 -12 +10,13:b,x,c"},
		{"lines beside them", "1 +^,$:a,b,c,d >.2,.1", "a,x,b,c,y,d", "1 -11 -12 +10,13:x,b,c,y"},
		{"three", "1 +^,$:a,b,c >.2,.0", "a,b,c", "1 -10 -11 -12 +^,$:a,b,c"},
		{"two tangled items", "1 +^,$:a,b,c,d,e >.1,.0 >.4,.3", "a,b,c,d,e", "1 -10 -11 -13 -14 +^,12:a,b +12,$:d,e"},
		{"two of them side by side", "1 +^,$:a,b,c,d >.1,.0 >.3,.2", "a,b,c,d", "1 -10 -11 -12 -13 +^,$:a,b,c,d"},
		{"revived more often", "1 +^,$:a,b >.1,.0 | 21 *10 *11 *11", "a,b", "1 -10 -10 -11 -11 -11 +^,$:a,b"},
		{"of several patches", "1 +^,$:x | 2 +^,$:y | 312 >10,20 | 412 >20,10", "x,y", "12 -10 -20 +^,$:x,y"},
		{"in a run of several", "1 +^,$:a,b >.1,.0 | 2 +^,$:x", "a,b,x", "12 -10 -11 +^,20:a,b"},
		{"in a run of several, behind the other side", "2 +^,$:a,b >.1,.0 | 1 +^,$:x", "x,a,b", "12 -20 -21 +10,$:a,b"},
		{"in a run of several, cut", "1 +^,$:a,b >.1,.0 | 2 +^,$:x", "x", "1 -10 -11"},
		{"one line of a knot is alive: it is kept", "1 +^,$:a,b,c >.2,.0 | 21 -10 -12", "b,x", "1 +11,$:x"},
		{"two of a knot's three are alive", "1 +^,$:a,b,c >.2,.0 | 21 -11", "a,c", "1 -10 -12 +^,$:a,c"},
	})
}

// P11.1: Join ops between kept lines that stand next to each other.
func TestJoin(t *testing.T) {
	play(t, []scene{
		{"two sides", "2 +^,$:x | 3 +^,$:y", "x,y", "23 >20,30"},
		{"three sides", "1 +^,$:x | 2 +^,$:y | 3 +^,$:z", "x,y,z", "123 >10,20 >20,30"},
		{"one of three is left out", "1 +^,$:x | 2 +^,$:y | 3 +^,$:z", "x,z", "123 -20 >10,30"},
		{"sides of several lines", "1 +^,$:a,b | 2 +^,$:x,y", "a,b,x,y", "12 >11,20"},
		{"a side's last line is left out", "1 +^,$:a,b | 2 +^,$:x,y", "a,x,y", "12 -11 >10,20"},
		{"between two lines", "1 +^,$:a,b | 21 +10,11:x | 31 +10,11:y", "a,x,y,b", "23 >20,30"},
		{"two New ops of one patch", "1 +^,$:x +^,$:y", "x,y", "1 >10,11"},
		{"some of a run are ahead already", "1 +^,$:a +^,$:b +^,$:c +^,$:d >.0,.2 >.1,.2 >.1,.3", "a,b,c,d", "1 >10,11 >12,13"},
		{"ahead through a deleted line", "1 +^,$:a,b,c", "a,c", "1 -11"},
		{"ahead through lines that were deleted", "1 +^,$:a,b,c,d | 21 -11 -12", "d", "1 -10"},
		{"ahead through lines that were deleted, and a side", "1 +^,$:a,b,c,d | 21 -11 -12 | 3 +^,$:x", "a,d,x", "13 >13,30"},
		{"ahead through a tangled item", "1 +^,$:a,b,c,d >.2,.1", "a,d", "1 -11 -12"},
		{"both behind a line that isn't in the text", "1 +^,$:a,b | 21 +10,$:x", "b,x", "12 -10 >11,20"},
		{"with the top and the bottom none", "2 +^,$:x | 3 +^,$:y", "x", "3 -30"},
	})
}

// P11.1: so many Joins as Cuts of the pair ask for.
func TestCuts(t *testing.T) {
	play(t, []scene{
		{"a Cut", "1 +^,$:x | 2 +^,$:y | 312 /10,20", "x,y", "12 >10,20 >10,20"},
		{"a Join and its Cut", "1 +^,$:x | 2 +^,$:y | 312 >10,20 /10,20", "x,y", "12 >10,20"},
		{"two Cuts and a Join", "1 +^,$:x | 2 +^,$:y | 312 /10,20 /10,20 >10,20", "x,y", "12 >10,20 >10,20"},
		{"Cuts of several patches", "1 +^,$:x | 2 +^,$:y | 312 /10,20 | 412 /10,20 /10,20", "x,y", "12 >10,20 >10,20 >10,20 >10,20"},
		{"of lines of their own", "1 +^,$:x +^,$:y /.0,.1", "x,y", "1 >10,11 >10,11"},
		{"of lines of their own, and of others", "1 +^,$:x +^,$:y /.0,.1 | 21 /10,11 >10,11 | 31 >10,11 /10,11 /10,11", "x,y", "1 >10,11 >10,11 >10,11"},
		{"of the pair the other way", "1 +^,$:x | 2 +^,$:y | 312 /20,10", "x,y", "12 >10,20"},
		{"of other pairs", "1 +^,$:w,x | 2 +^,$:y,z | 312 /10,20 /11,21 /10,21", "w,x,y,z", "12 >11,20"},
		{"of the top and of the bottom", "1 +^,$:x | 2 +^,$:y | 312 /^,10 /20,$ /^,$", "x,y", "12 >10,20"},
		{"of several pairs", "1 +^,$:x | 2 +^,$:y | 3 +^,$:z | 4123 /10,20 /20,30 /20,30", "x,y,z", "123 >10,20 >10,20 >20,30 >20,30 >20,30"},
		{"a line between them", "1 +^,$:x | 2 +^,$:y | 312 /10,20", "x,n,y", "12 +10,20:n"},
		{"ahead all the same", "1 +^,$:x,y | 21 /10,11", "x,y,z", "1 +11,$:z"},
	})
}

// P11.1: the patches of what the ops name, and of the kept lines beside what is deleted.
func TestDeps(t *testing.T) {
	play(t, []scene{
		{"none", "1", "a", "+^,$:a"},
		{"not a patch whose lines aren't named", "1 +^,$:a,b | 21 +11,$:c | 32 +20,$:d", "x,a,b,c,d", "1 +^,10:x"},
		{"a kept line below", "1 +^,$:a,b | 21 +10,11:x", "x,b", "12 -10"},
		{"a kept line above", "1 +^,$:a,b | 21 +10,11:x", "a,x", "12 -11"},
		{"kept lines of several patches", "1 +^,$:a,b,c | 21 +10,11:x | 31 +11,12:y", "a,x,y,c", "123 -11"},
		{"a kept line between two that are deleted", "1 +^,$:a,b | 21 +10,11:x", "x", "12 -10 -11"},
		{"a kept line next to it, put between others", "1 +^,$:a,b,c | 21 +11,12:x", "b,x,c", "1 -10"},
		{"put beside it, but other lines stand between", "1 +^,$:a,b | 21 +10,11:x,y,z", "x,y,z,b", "12 -10"},
		{"a line put beside it that isn't alive", "1 +^,$:a,b | 21 +10,11:x | 32 -20", "b", "1 -10"},
		{"kept lines of several patches, one behind the other", "1 +^,$:a,b | 21 +10,11:x | 312 +10,20:y", "y,x,b", "123 -10"},
		{"a line put beside one that was deleted ahead", "1 +^,$:a,b | 21 -10 | 312 +10,11:x", "x,b,c", "1 +11,$:c"},
		{"a tangled line, laid anew, beside a kept one", "1 +^,$:a,b >.1,.0 | 21 +11,$:c", "a,b,c", "12 -10 -11 +^,20:a,b"},
	})
}

// P11.1: the patches that have deleted the same.
func TestDeletedAsWell(t *testing.T) {
	play(t, []scene{
		{"and it was revived", "1 +^,$:a,b | 21 +10,11:x | 31 -10 | 413 *10", "x,b", "123 -10"},
		{"by several", "1 +^,$:a,b | 21 +10,11:x | 31 -10 | 413 *10 | 51 -10 | 615 *10", "x,b", "1235 -10"},
		{"by one that has revived it itself", "1 +^,$:a,b | 21 +10,11:x | 31 -10 *10", "x,b", "123 -10"},
		{"by one that has put nothing beside it, and revived by none more", "1 +^,$:a,b | 21 +10,11:x | 31 *10 -10 | 41 *11", "x,b", "123 -10"},
		{"the line above is cut, others have deleted the one below", "1 +^,$:a,b | 21 +10,11:x | 31 -11 *11", "x,b", "12 -10"},
		{"the kept line's own patch", "1 +^,$:a,b | 21 +10,11:x -10 *10", "x,b", "12 -10"},
		{"nothing kept beside it", "1 +^,$:a,b | 31 -10 *10", "b", "1 -10"},
		{"what stood beside it goes too", "1 +^,$:a,b | 21 +10,11:x | 31 -10 *10", "b", "12 -10 -20"},
		{"it is kept", "1 +^,$:a,b | 21 +10,11:x | 31 -10 *10", "a,x,b,c", "1 +11,$:c"},
	})
}

// P11.1: the Patches of all doubts.
func TestDoubts(t *testing.T) {
	play(t, []scene{
		{"the line is kept: no ops", "1 +^,$:a,b | 21 +10,11:x | 31 -10", "x,b", "23"},
		{"the line is kept, another one is put", "1 +^,$:a,b | 21 +10,11:x | 31 -10", "x,b,c", "123 +11,$:c"},
		{"the line is cut", "1 +^,$:a,b | 21 +10,11:x | 31 -10", "b", "23 -20"},
		{"of several deleters", "1 +^,$:a,b | 21 +10,11:x | 31 -10 | 41 -11 | 51 -10", "x", "2345"},
		{"of several lines", "1 +^,$:a,b,c,d | 21 +10,11:x | 31 -10 | 41 +12,13:y | 51 -13", "x,b,c,y", "2345"},
		{"not of those that are known", "1 +^,$:a,b | 21 +10,11:x | 31 -10 | 41 -10 | 523", "x,b", "24"},
		{"in a run of several", "1 +^,$:a,b | 21 +10,11:x | 31 -10 | 41 +10,11:y", "x,y,b", "234 >20,40"},
		{"in a tangled item", "1 +^,$:a,b | 21 +10,11:x,y >.1,.0 | 31 -10", "x,y,b", "123 -20 -21 +^,11:x,y"},
		{"the line below goes too", "1 +^,$:a,b | 21 +10,11:x | 31 -10", "x", "123 -11"},
	})
}

// P11.1: several kinds of conflicts at once.
func TestSeveralKinds(t *testing.T) {
	set := "1 +^,$:a,b,c,d | 21 >11,10 +12,13:x | 31 +11,12:p -13 | 41 +11,12:q"
	play(t, []scene{
		{"as it stands", set, "a,b,p,q,c,x", "1234 -10 -11 +^,30:a,b >30,40"},
		{"the tangled lines turned", set, "b,a,p,q,c,x", "1234 -10 -11 +^,30:b,a >30,40"},
		{"a side goes", set, "a,b,p,c,x", "1234 -10 -11 -40 +^,30:a,b"},
		{"the doubtful line goes", set, "a,b,p,q,c", "1234 -10 -11 -20 +^,30:a,b >30,40"},
		{"all goes", set, "z", "1234 -10 -11 -30 -40 -12 -20 +^,$:z"},
	})
}
