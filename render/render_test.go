package render_test

import (
	"errors"
	"fmt"
	"slices"
	"strconv"
	"strings"
	"testing"

	"tambour/api"
	"tambour/render"
)

// digit is a name that a right patch may need, told in tests by its one digit.
func digit(b byte) string {
	return strings.Repeat(string(b), 64)
}

// refOf reads a ref of a patch with these Deps (a digit each): ^ the top, $ the bottom, .3 its own line 3, a3 line 3 of
// the patch a.
func refOf(s, deps string) api.Ref {
	switch {
	case s == "":
		return api.Ref{}
	case s == "^":
		return api.Ref{At: -1}
	case s == "$":
		return api.Ref{At: -1, N: 1}
	}
	n, err := strconv.Atoi(s[1:])
	if err != nil {
		n = -1
	}
	if s[0] == '.' {
		return api.Ref{At: -2, N: n}
	}
	at := strings.IndexByte(deps, s[0])
	if at < 0 {
		at = api.MaxDeps
	}
	return api.Ref{At: at, N: n}
}

// opOf reads an op: +A,B:x,y a New with two lines, >A,B a Join, /A,B a Cut, -A a Delete, *A a Revive.
func opOf(s, deps string) api.Op {
	between, lines, put := strings.Cut(s[1:], ":")
	a, b, _ := strings.Cut(between, ",")
	o := api.Op{Kind: strings.IndexByte("+>/-*", s[0]) + 1, A: refOf(a, deps), B: refOf(b, deps)}
	if put {
		o.Lines = strings.Split(lines, ",")
	}
	return o
}

// setOf reads a set, its patches parted by |: of each the digit of its name and those of its Deps, then its ops.
func setOf(s string) []api.Named {
	var out []api.Named
	for p := range strings.SplitSeq(s, "|") {
		words := strings.Fields(p)
		if len(words) == 0 {
			continue
		}
		deps := words[0][1:]
		n := api.Named{Name: digit(words[0][0])}
		for i := range len(deps) {
			n.Patch.Deps = append(n.Patch.Deps, digit(deps[i]))
		}
		for _, w := range words[1:] {
			n.Patch.Ops = append(n.Patch.Ops, opOf(w, deps))
		}
		out = append(out, n)
	}
	return out
}

// brief tells a name as setOf reads it.
func brief(name string) string {
	if len(name) == 64 && name == digit(name[0]) {
		return name[:1]
	}
	return fmt.Sprintf("%.80q", name)
}

// rows tells a view's rows: lines as they are, and a conflict's markers as [kind x / y].
func rows(v api.View) string {
	var out []string
	for _, r := range v.Rows {
		kind, open := strings.CutPrefix(r.Text, ">>>>>>> ")
		switch {
		case !r.Marker:
			out = append(out, r.Text)
		case r.Id != api.Id{}:
			out = append(out, fmt.Sprintf("%+v", r))
		case open:
			out = append(out, "["+kind)
		case r.Text == "=======":
			out = append(out, "/")
		case r.Text == "<<<<<<<":
			out = append(out, "]")
		default:
			out = append(out, fmt.Sprintf("%+v", r))
		}
	}
	return strings.ReplaceAll(strings.Join(out, " "), " ]", "]")
}

// conflicts tells a view's conflicts: of each its kind and its lines' ids, as setOf reads them.
func conflicts(v api.View) string {
	var out []string
	for _, c := range v.Conflicts {
		told := c.Kind
		for _, id := range c.Lines {
			told += " " + brief(id.Patch) + strconv.Itoa(id.N)
		}
		out = append(out, told)
	}
	return strings.Join(out, "; ")
}

// doubts tells doubts: of each its line's id, and the names.
func doubts(l []api.Doubt) string {
	var out []string
	for _, d := range l {
		told := brief(d.Line.Patch) + strconv.Itoa(d.Line.N) + ":"
		for _, name := range d.Patches {
			told += " " + brief(name)
		}
		out = append(out, told)
	}
	return strings.Join(out, "; ")
}

// sameView holds views against each other; an empty list may be nil or not.
func sameView(v, w api.View) bool {
	return slices.Equal(v.Rows, w.Rows) && slices.EqualFunc(v.Conflicts, w.Conflicts, func(c, d api.Conflict) bool {
		return c.Kind == d.Kind && slices.Equal(c.Lines, d.Lines)
	})
}

// sameDoubts holds doubts against each other.
func sameDoubts(l, m []api.Doubt) bool {
	return slices.EqualFunc(l, m, func(d, e api.Doubt) bool { return d.Line == e.Line && slices.Equal(d.Patches, e.Patches) })
}

// only says whether e is the error n, and no other one; for api.OK, whether it is nil.
func only(e error, n api.Errno) bool {
	if n == api.OK {
		return e == nil
	}
	for i := range api.Errno(100) {
		if errors.Is(e, i) != (i == n) {
			return false
		}
	}
	var got api.Errno
	return errors.As(e, &got) && got == n
}

// turns are all orders of a small set, some of a greater one.
func turns(set []api.Named) [][]api.Named {
	if len(set) <= 1 {
		return [][]api.Named{set}
	}
	if len(set) > 5 {
		back := slices.Clone(set)
		slices.Reverse(back)
		half := len(set) / 2
		return [][]api.Named{set, back, slices.Concat(set[half:], set[:half]), slices.Concat(back[half:], back[:half])}
	}
	var out [][]api.Named
	for i, p := range set {
		for _, rest := range turns(slices.Concat(set[:i], set[i+1:])) {
			out = append(out, slices.Concat([]api.Named{p}, rest))
		}
	}
	return out
}

// shown is what a set shows, and its doubts: the same in all orders of it (P10.1), and as the chapter's words say.
func shown(t *testing.T, why string, set []api.Named) (api.View, []api.Doubt) {
	t.Helper()
	asTheWordsSay(t, set)
	v, e := render.Show(set)
	l, f := render.Doubts(set)
	if e != nil || f != nil {
		t.Errorf("%s: %v, %v", why, e, f)
	}
	for _, s := range turns(set) {
		if w, e := render.Show(s); e != nil || !sameView(v, w) {
			t.Errorf("%s: in another order: %s; %s; %v, want %s; %s", why, rows(w), conflicts(w), e, rows(v), conflicts(v))
		}
		if m, e := render.Doubts(s); e != nil || !sameDoubts(l, m) {
			t.Errorf("%s: in another order: %s, %v, want %s", why, doubts(m), e, doubts(l))
		}
	}
	return v, l
}

// scene is a set, and what is to be shown of it.
type scene struct{ why, set, rows, conflicts, doubts string }

func play(t *testing.T, scenes []scene) {
	t.Helper()
	for _, s := range scenes {
		v, l := shown(t, s.why, setOf(s.set))
		if rows(v) != s.rows || conflicts(v) != s.conflicts || doubts(l) != s.doubts {
			t.Errorf("%s: %s; %s; %s, want %s; %s; %s", s.why, rows(v), conflicts(v), doubts(l), s.rows, s.conflicts, s.doubts)
		}
	}
}

// P10.1: the chapter's example, and the same of three.
func TestExample(t *testing.T) {
	put := func(line string) api.Patch {
		return api.Patch{Ops: []api.Op{{Kind: api.OpNew, A: api.Ref{At: -1}, B: api.Ref{At: -1, N: 1}, Lines: []string{line}}}}
	}
	mark := func(text string) api.Row { return api.Row{Text: text, Marker: true} }
	two, six, four := api.Id{Patch: digit('2')}, api.Id{Patch: digit('6')}, api.Id{Patch: digit('4')}
	set := []api.Named{{Name: two.Patch, Patch: put("x")}, {Name: six.Patch, Patch: put("y")}}
	want := api.View{
		Rows:      []api.Row{mark(">>>>>>> order"), {Text: "x", Id: two}, mark("======="), {Text: "y", Id: six}, mark("<<<<<<<")},
		Conflicts: []api.Conflict{{Kind: "order", Lines: []api.Id{two, six}}},
	}
	if v, e := render.Show(set); e != nil || !sameView(v, want) || render.Text(v) != ">>>>>>> order\nx\n=======\ny\n<<<<<<<" {
		t.Errorf("%+v, %v", v, e)
	}
	set = append(set, api.Named{Name: four.Patch, Patch: put("z")})
	want = api.View{
		Rows:      slices.Concat(want.Rows[:3], []api.Row{{Text: "z", Id: four}}, want.Rows[2:]),
		Conflicts: []api.Conflict{{Kind: "order", Lines: []api.Id{two, four, six}}},
	}
	if v, e := render.Show(set); e != nil || !sameView(v, want) || render.Text(v) != ">>>>>>> order\nx\n=======\nz\n=======\ny\n<<<<<<<" {
		t.Errorf("%+v, %v", v, e)
	}
	if l, e := render.Doubts(set); e != nil || len(l) != 0 {
		t.Error(l, e)
	}
}

// P10.1: nil and an empty list are the set of no patches.
func TestNoPatches(t *testing.T) {
	for _, set := range [][]api.Named{nil, {}, make([]api.Named, 0, 9)} {
		v, e := render.Show(set)
		l, f := render.Doubts(set)
		if e != nil || f != nil || len(v.Rows) != 0 || len(v.Conflicts) != 0 || len(l) != 0 || render.Text(v) != "" {
			t.Error(v, e, l, f)
		}
	}
}

// P10.1: sets without conflicts.
func TestPlain(t *testing.T) {
	play(t, []scene{
		{"no patches", "", "", "", ""},
		{"a patch without ops", "1", "", "", ""},
		{"patches without ops that need each other", "1 | 21 | 312", "", "", ""},
		{"one line", "1 +^,$:a", "a", "", ""},
		{"three lines", "1 +^,$:a,b,c", "a b c", "", ""},
		{"lines alike", "1 +^,$:a,a", "a a", "", ""},
		{"an empty line", "1 +^,$:a,,b", "a  b", "", ""},
		{"a line at the top", "1 +^,$:b | 21 +^,10:a", "a b", "", ""},
		{"a line at the bottom", "1 +^,$:a | 21 +10,$:b", "a b", "", ""},
		{"a line between two", "1 +^,$:a,c | 21 +10,11:b", "a b c", "", ""},
		{"several that need one another", "5 +^,$:a,d | 45 +50,51:b | 345 +40,51:c | 235 -51 +30,$:e | 12 +20,$:f", "a b c e f", "", ""},
		{"a text that falls by its places", "4 +^,$:d | 34 +^,40:c | 23 +^,30:b | 12 +^,20:a", "a b c d", "", ""},
		{"an order that a Join has settled", "1 +^,$:x | 2 +^,$:y | 312 >20,10", "y x", "", ""},
		{"a Join and its Cut in one patch", "1 +^,$:a,b >.1,.0 /.1,.0", "a b", "", ""},
		{"a line that is deleted", "1 +^,$:a,b,c | 21 -11", "a c", "", ""},
		{"the first line is deleted", "1 +^,$:a,b,c | 21 -10", "b c", "", ""},
		{"the last line is deleted", "1 +^,$:a,b,c | 21 -12", "a b", "", ""},
		{"all but one", "1 +^,$:a,b,c,d,e | 21 -10 -11 | 31 -14 -13", "c", "", ""},
		{"all lines are deleted", "1 +^,$:a,b | 21 -10 -11", "", "", ""},
		{"deleted and revived", "1 +^,$:a,b | 21 -10 | 312 *10", "a b", "", ""},
		{"deleted twice, revived once", "1 +^,$:a,b | 21 -10 | 31 -10 | 4123 *10", "b", "", ""},
		{"revived more often", "1 +^,$:a,b | 21 *10 *10 | 31 -10", "a b", "", ""},
		{"a line in place of one", "1 +^,$:a,b,c | 21 -11 +10,12:x", "a x c", "", ""},
		{"two deleted lines side by side, between two that aren't", "1 +^,$:a,d | 21 +10,11:b | 31 +10,11:c | 4123 -20 -30", "a d", "", ""},
		{"a line beside a deleted one", "1 +^,$:a,d | 21 +10,11:b | 31 +10,11:c | 4123 -20", "a c d", "", ""},
		{"one line of a knot is alive", "1 +^,$:a,b | 21 >11,10 -10", "b", "", ""},
		{"one line of three of a knot is alive", "1 +^,$:a,b,c | 21 >12,10 -10 -12", "b", "", ""},
		{"a knot without a line that is alive", "1 +^,$:a,b,c,d | 21 >12,11 -12 -11", "a d", "", ""},
	})
}

// P10.1: runs of several items.
func TestOrder(t *testing.T) {
	play(t, []scene{
		{"two sides", "2 +^,$:x | 3 +^,$:y", "[order x / y]", "order 20 30", ""},
		{"by their names, not by their lines", "3 +^,$:x | 2 +^,$:y", "[order y / x]", "order 20 30", ""},
		{"three sides", "1 +^,$:x | 2 +^,$:y | 3 +^,$:z", "[order x / y / z]", "order 10 20 30", ""},
		{"two New ops of one patch", "1 +^,$:x +^,$:y", "[order x / y]", "order 10 11", ""},
		{"lines alike", "1 +^,$:x | 2 +^,$:x", "[order x / x]", "order 10 20", ""},
		{"sides of several lines", "1 +^,$:a,b,c | 2 +^,$:x,y", "[order a b c / x y]", "order 10 11 12 20 21", ""},
		{"a side of several patches", "1 +^,$:a | 21 +10,$:b | 3 +^,$:x", "[order a b / x]", "order 10 20 30", ""},
		{"a side whose places fall", "1 +^,$:a | 21 +^,10:b | 3 +^,$:x", "[order b a / x]", "order 20 10 30", ""},
		{"the side of the least place comes first", "1 +^,$:a | 41 +^,10:b | 3 +^,$:x", "[order b a / x]", "order 40 10 30", ""},
		{"a side that forks", "1 +^,$:a | 21 +10,$:b | 31 +10,$:c | 4 +^,$:x", "[order a b c / x]", "order 10 20 30 40", ""},
		{"between two lines", "1 +^,$:a,b | 21 +10,11:x | 31 +10,11:y,z", "a [order x / y z] b", "order 20 30 31", ""},
		{"at the end", "1 +^,$:a | 21 +10,$:x | 31 +10,$:y", "a [order x / y]", "order 20 30", ""},
		{"at the beginning", "1 +^,$:a | 21 +^,10:x | 31 +^,10:y", "[order x / y] a", "order 20 30", ""},
		{"two of them", "1 +^,$:a,b,c | 21 +10,11:x +11,12:p | 31 +10,11:y +11,12:q", "a [order x / y] b [order p / q] c", "order 20 30; order 21 31", ""},
		{"two of them, their lines' places crossed", "1 +^,$:a,b,c | 21 +11,12:p +10,11:x | 31 +10,11:y +11,12:q", "a [order x / y] b [order p / q] c", "order 21 30; order 20 31", ""},
		{"one side that isn't sorted", "1 +^,$:a +^,$:b +^,$:c +^,$:d >.0,.2 >.1,.2 >.1,.3", "[order a b c d]", "order 10 11 12 13", ""},
		{"two ahead of two others", "1 +^,$:a +^,$:b +^,$:c +^,$:d >.0,.2 >.1,.2 >.0,.3 >.1,.3", "[order a b c d]", "order 10 11 12 13", ""},
		{"a line beside many", "1 +^,$:a,b,c,d | 21 +^,$:x", "[order a b c d / x]", "order 10 11 12 13 20", ""},
		{"a line beside the middle of many", "1 +^,$:a,b,c,d,e | 21 +11,13:x", "a b [order c / x] d e", "order 12 20", ""},
		{"comparable through a deleted line", "1 +^,$:a,b,c | 21 -11 | 3 +^,$:x", "[order a c / x]", "order 10 12 30", ""},
		{"beside a deleted line of the same side", "1 +^,$:a,e | 21 +10,11:b,c,d | 31 +10,11:x | 42 -21", "a [order b d / x] e", "order 20 22 30", ""},
		{"both ahead of a deleted line", "1 +^,$:a,b | 21 +^,11:x | 312 -11", "[order a / x]", "order 10 20", ""},
		{"both behind a deleted line", "1 +^,$:a,b | 21 +10,$:x | 312 -10", "[order b / x]", "order 11 20", ""},
		{"a deleted line beside", "1 +^,$:a,b | 21 +10,11:x | 31 +10,11:y | 4123 +10,11:z -30", "a [order x / z] b", "order 20 40", ""},
		{"a tangled item within", "1 +^,$:a,b >.1,.0 | 2 +^,$:x", "[order a b / x]", "order 10 11 20", ""},
		{"tangled items on both sides", "1 +^,$:a,b,c >.2,.0 | 2 +^,$:x,y >.1,.0", "[order a b c / x y]", "order 10 11 12 20 21", ""},
		{"a tangled item ahead of a line on its side", "1 +^,$:a,b,c >.1,.0 | 2 +^,$:x", "[order a b c / x]", "order 10 11 12 20", ""},
		{"a tangled item whose lines stand apart by their places", "1 +^,$:a | 2 +^,$:x | 31 +10,$:b,c >.0,10", "[order a b c / x]", "order 10 30 31 20", ""},
		{"a tangled item whose first line is deleted", "1 +^,$:a,b,c >.2,.0 | 21 -10 | 3 +^,$:x", "[order b c / x]", "order 11 12 30", ""},
	})
}

// P10.1: items of several lines.
func TestTangled(t *testing.T) {
	play(t, []scene{
		{"two lines", "1 +^,$:a,b | 21 >11,10", "[tangled a b]", "tangled 10 11", ""},
		{"three lines", "1 +^,$:a,b,c | 21 >12,10", "[tangled a b c]", "tangled 10 11 12", ""},
		{"by their places, not by their ring", "1 +^,$:c,a,b >.2,.0 | 2", "[tangled c a b]", "tangled 10 11 12", ""},
		{"of several patches", "3 +^,$:a | 23 +30,$:b | 12 +20,$:c >.0,20", "a [tangled c b]", "tangled 10 20", ""},
		{"a conflict settled in unlike orders", "1 +^,$:x | 2 +^,$:y | 312 >10,20 | 412 >20,10", "[tangled x y]", "tangled 10 20", ""},
		{"a New between two lines against their order", "1 +^,$:a,b | 21 +11,10:x", "[tangled a b x]", "tangled 10 11 20", ""},
		{"between lines", "1 +^,$:a,b,c,d | 21 >12,11", "a [tangled b c] d", "tangled 11 12", ""},
		{"two of them", "1 +^,$:a,b,c,d,e | 21 >11,10 >14,13", "[tangled a b] c [tangled d e]", "tangled 10 11; tangled 13 14", ""},
		{"two of them, side by side", "1 +^,$:a,b,c,d | 21 >11,10 >13,12", "[tangled a b] [tangled c d]", "tangled 10 11; tangled 12 13", ""},
		{"through a deleted line", "1 +^,$:a,b,c | 21 >12,10 -11", "[tangled a c]", "tangled 10 12", ""},
		{"lines alike", "1 +^,$:a,a >.1,.0", "[tangled a a]", "tangled 10 11", ""},
		{"through a deleted line of another patch", "1 +^,$:a,b | 21 +11,10:x | 32 -20", "[tangled a b]", "tangled 10 11", ""},
	})
}
