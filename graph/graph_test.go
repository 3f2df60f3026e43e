package graph_test

import (
	"errors"
	"fmt"
	"slices"
	"strconv"
	"strings"
	"testing"

	"tambour/api"
	"tambour/graph"
)

// digit is a name that a right patch may need, told in tests by its one digit.
func digit(b byte) string {
	return strings.Repeat(string(b), 64)
}

// refOf reads a ref of a patch with these Deps (a digit each): ^ the top, $ the bottom, .3 its own line 3, a3 line 3 of
// the patch a.
func refOf(s, deps string) api.Ref {
	switch {
	case s == "":
		return api.Ref{}
	case s == "^":
		return api.Ref{At: -1}
	case s == "$":
		return api.Ref{At: -1, N: 1}
	}
	n, err := strconv.Atoi(s[1:])
	if err != nil {
		n = -1
	}
	if s[0] == '.' {
		return api.Ref{At: -2, N: n}
	}
	at := strings.IndexByte(deps, s[0])
	if at < 0 {
		at = api.MaxDeps
	}
	return api.Ref{At: at, N: n}
}

// opOf reads an op: +A,B:x,y a New with two lines, >A,B a Join, /A,B a Cut, -A a Delete, *A a Revive.
func opOf(s, deps string) api.Op {
	between, lines, put := strings.Cut(s[1:], ":")
	a, b, _ := strings.Cut(between, ",")
	o := api.Op{Kind: strings.IndexByte("+>/-*", s[0]) + 1, A: refOf(a, deps), B: refOf(b, deps)}
	if put {
		o.Lines = strings.Split(lines, ",")
	}
	return o
}

// setOf reads a set, its patches parted by |: of each the digit of its name and those of its Deps, then its ops.
func setOf(s string) []api.Named {
	var out []api.Named
	for p := range strings.SplitSeq(s, "|") {
		words := strings.Fields(p)
		if len(words) == 0 {
			continue
		}
		deps := words[0][1:]
		n := api.Named{Name: digit(words[0][0])}
		for i := range len(deps) {
			n.Patch.Deps = append(n.Patch.Deps, digit(deps[i]))
		}
		for _, w := range words[1:] {
			n.Patch.Ops = append(n.Patch.Ops, opOf(w, deps))
		}
		out = append(out, n)
	}
	return out
}

// short tells an id as setOf reads it.
func short(id api.Id) string {
	switch {
	case id == api.Id{}:
		return "^"
	case id == api.Id{N: 1}:
		return "$"
	case len(id.Patch) == 64 && id.Patch == digit(id.Patch[0]):
		return fmt.Sprintf("%c%d", id.Patch[0], id.N)
	}
	return fmt.Sprintf("%q%d", id.Patch, id.N)
}

// vertices tells them: the id, the line, between what it was put, and how often it is deleted, if that isn't 0.
func vertices(g api.Graph) string {
	var out []string
	for _, v := range g.Vertices {
		switch {
		case v == api.Vertex{}:
			out = append(out, "^")
		case v == api.Vertex{Id: api.Id{N: 1}}:
			out = append(out, "$")
		case v.Deleted == 0:
			out = append(out, fmt.Sprintf("%s=%s(%s,%s)", short(v.Id), v.Line, short(v.Above), short(v.Below)))
		default:
			out = append(out, fmt.Sprintf("%s=%s(%s,%s)%+d", short(v.Id), v.Line, short(v.Above), short(v.Below), v.Deleted))
		}
	}
	return strings.Join(out, " ")
}

// edges tells them by the ids of their places.
func edges(g api.Graph) string {
	var out []string
	for _, e := range g.Edges {
		out = append(out, short(g.Vertices[e[0]].Id)+">"+short(g.Vertices[e[1]].Id))
	}
	return strings.Join(out, " ")
}

// same holds graphs against each other; an empty list may be nil or not.
func same(g, h api.Graph) bool {
	return slices.Equal(g.Vertices, h.Vertices) && slices.Equal(g.Edges, h.Edges)
}

// only says whether e is the error n, and no other one; for api.OK, whether it is nil.
func only(e error, n api.Errno) bool {
	if n == api.OK {
		return e == nil
	}
	for i := range api.Errno(100) {
		if errors.Is(e, i) != (i == n) {
			return false
		}
	}
	var got api.Errno
	return errors.As(e, &got) && got == n
}

// turns are all orders of a small set, some of a greater one.
func turns(set []api.Named) [][]api.Named {
	if len(set) <= 1 {
		return [][]api.Named{set}
	}
	if len(set) > 5 {
		back := slices.Clone(set)
		slices.Reverse(back)
		half := len(set) / 2
		return [][]api.Named{set, back, slices.Concat(set[half:], set[:half]), slices.Concat(back[half:], back[:half])}
	}
	var out [][]api.Named
	for i, p := range set {
		for _, rest := range turns(slices.Concat(set[:i], set[i+1:])) {
			out = append(out, slices.Concat([]api.Named{p}, rest))
		}
	}
	return out
}

// built is a set's graph, the same in all orders of it, and as the chapter's words say.
func built(t *testing.T, why string, set []api.Named) api.Graph {
	t.Helper()
	asTheWordsSay(t, set)
	want, _ := graph.Build(set)
	for _, s := range turns(set) {
		if g, e := graph.Build(s); e != nil || !same(g, want) {
			t.Errorf("%s: in another order: %s, %s, %v, want %s, %s", why, vertices(g), edges(g), e, vertices(want), edges(want))
		}
	}
	return want
}

// refused holds what Build answers of a set in all its orders: that error, and nothing beside it (R2).
func refused(t *testing.T, why string, set []api.Named, want api.Errno) {
	t.Helper()
	asTheWordsSay(t, set)
	for _, s := range turns(set) {
		if g, e := graph.Build(s); !only(e, want) || len(g.Vertices) != 0 || len(g.Edges) != 0 {
			t.Errorf("%s: %s, %s, %v, want %v", why, vertices(g), edges(g), e, want)
		}
	}
}

// P7.1: the chapter's example.
func TestExample(t *testing.T) {
	g, e := graph.Build(setOf("1 +^,$:a,b"))
	one := digit('1')
	want := api.Graph{
		Vertices: []api.Vertex{{}, {Id: api.Id{N: 1}},
			{Id: api.Id{Patch: one}, Line: "a", Below: api.Id{N: 1}},
			{Id: api.Id{Patch: one, N: 1}, Line: "b", Below: api.Id{N: 1}}},
		Edges: [][2]int{{0, 2}, {2, 3}, {3, 1}},
	}
	if e != nil || !same(g, want) {
		t.Error(g, e)
	}
}

// P7.1: the vertices and the edges of sets of each kind, in all orders.
func TestBuild(t *testing.T) {
	for _, c := range []struct{ why, set, vertices, edges string }{
		{"no patches", "", "^ $", ""},
		{"a patch without ops", "1", "^ $", ""},
		{"patches without ops that need each other", "1 | 21 | 312", "^ $", ""},
		{"one line", "1 +^,$:a", "^ $ 10=a(^,$)", "^>10 10>$"},
		{"an empty line", "1 +^,$:", "^ $ 10=(^,$)", "^>10 10>$"},
		{"three lines", "1 +^,$:a,b,c", "^ $ 10=a(^,$) 11=b(^,$) 12=c(^,$)", "^>10 10>11 11>12 12>$"},
		{"lines alike", "1 +^,$:a,a", "^ $ 10=a(^,$) 11=a(^,$)", "^>10 10>11 11>$"},
		{"several New ops", "1 +^,$:a +^,$:b,c", "^ $ 10=a(^,$) 11=b(^,$) 12=c(^,$)", "^>10 ^>11 10>$ 11>12 12>$"},
		{"between own lines", "1 +^,$:a,b +.0,.1:x,y", "^ $ 10=a(^,$) 11=b(^,$) 12=x(10,11) 13=y(10,11)", "^>10 10>11 10>12 11>$ 12>13 13>11"},
		{"between own lines of two ops", "1 +^,$:a +.0,$:b +.0,.1:x", "^ $ 10=a(^,$) 11=b(10,$) 12=x(10,11)", "^>10 10>$ 10>11 10>12 11>$ 12>11"},
		{"between own lines, against their order", "1 +^,$:a,b +.1,.0:x", "^ $ 10=a(^,$) 11=b(^,$) 12=x(11,10)", "^>10 10>11 11>$ 11>12 12>10"},
		{"between another patch's lines", "1 +^,$:a,b | 21 +10,11:x", "^ $ 10=a(^,$) 11=b(^,$) 20=x(10,11)", "^>10 10>11 10>20 11>$ 20>11"},
		{"between lines of two patches", "1 +^,$:a,b | 2 +^,$:c,d | 312 +11,20:x", "^ $ 10=a(^,$) 11=b(^,$) 20=c(^,$) 21=d(^,$) 30=x(11,20)", "^>10 ^>20 10>11 11>$ 11>30 20>21 21>$ 30>20"},
		{"between an own line and another patch's", "1 +^,$:a | 21 +^,10:b +.0,10:c", "^ $ 10=a(^,$) 20=b(^,10) 21=c(20,10)", "^>10 ^>20 10>$ 20>10 20>21 21>10"},
		{"at the top", "1 +^,$:a | 21 +^,10:x,y", "^ $ 10=a(^,$) 20=x(^,10) 21=y(^,10)", "^>10 ^>20 10>$ 20>21 21>10"},
		{"at the bottom", "1 +^,$:a | 21 +10,$:x,y", "^ $ 10=a(^,$) 20=x(10,$) 21=y(10,$)", "^>10 10>$ 10>20 20>21 21>$"},
		{"several patches at one place", "1 +^,$:a,b | 21 +10,11:x | 31 +10,11:y,z | 41 +10,11:x", "^ $ 10=a(^,$) 11=b(^,$) 20=x(10,11) 30=y(10,11) 31=z(10,11) 40=x(10,11)", "^>10 10>11 10>20 10>30 10>40 11>$ 20>11 30>31 31>11 40>11"},
		{"patches that don't know each other", "2 +^,$:b | 1 +^,$:a", "^ $ 10=a(^,$) 20=b(^,$)", "^>10 ^>20 10>$ 20>$"},
		{"names that fall as they are needed", "3 +^,$:a,b | 23 +30,31:c | 123 +30,20:d", "^ $ 10=d(30,20) 20=c(30,31) 30=a(^,$) 31=b(^,$)", "^>30 10>20 20>31 30>10 30>20 30>31 31>$"},
		{"a Dep that no op names", "1 +^,$:a | 21 +^,$:b", "^ $ 10=a(^,$) 20=b(^,$)", "^>10 ^>20 10>$ 20>$"},
		{"the second of three Deps", "1 +^,$:a | 2 +^,$:b,c | 3 +^,$:d | 4123 +20,21:x -21", "^ $ 10=a(^,$) 20=b(^,$) 21=c(^,$)+1 30=d(^,$) 40=x(20,21)", "^>10 ^>20 ^>30 10>$ 20>21 20>40 21>$ 30>$ 40>21"},
		{"a New behind ops of other kinds", "1 +^,$:a,b | 21 -10 >^,11 +10,11:x /10,11 +.0,11:y", "^ $ 10=a(^,$)+1 11=b(^,$) 20=x(10,11) 21=y(20,11)", "^>10 ^>11 10>11 10>20 11>$ 20>11 20>21 21>11"},
	} {
		if g := built(t, c.why, setOf(c.set)); vertices(g) != c.vertices || edges(g) != c.edges {
			t.Errorf("%s: %s, %s, want %s, %s", c.why, vertices(g), edges(g), c.vertices, c.edges)
		}
	}
}

// P7.1: nil and an empty list are the set of no patches.
func TestBuildNothing(t *testing.T) {
	for _, set := range [][]api.Named{nil, {}, make([]api.Named, 0, 9)} {
		g, e := graph.Build(set)
		if e != nil || !slices.Equal(g.Vertices, []api.Vertex{{}, {Id: api.Id{N: 1}}}) || len(g.Edges) != 0 {
			t.Error(g, e)
		}
	}
}

// P7.1: how often a line is deleted, less how often it is revived, in all patches.
func TestDeleted(t *testing.T) {
	two := "1 +^,$:a,b"
	for _, c := range []struct {
		why, set    string
		first, last int
	}{
		{"by none", two, 0, 0},
		{"by one", two + "| 21 -10", 1, 0},
		{"the last line", two + "| 21 -11", 0, 1},
		{"both", two + "| 21 -10 -11", 1, 1},
		{"by two", two + "| 21 -10 | 31 -10", 2, 0},
		{"by several", two + "| 21 -10 | 31 -10 -11 | 41 -11 -10 | 512 -10", 4, 2},
		{"twice by one", two + "| 21 -10 -10", 2, 0},
		{"revived by one that knows", two + "| 21 -10 | 312 *10", 0, 0},
		{"revived by one that doesn't know", two + "| 21 -10 | 31 *10", 0, 0},
		{"deleted by two, revived by one", two + "| 21 -10 | 31 -10 | 41 *10", 1, 0},
		{"deleted by two, revived by two", two + "| 21 -10 | 31 -10 | 41 *10 | 51 *10", 0, 0},
		{"revived alone", two + "| 21 *11", 0, -1},
		{"revived more often", two + "| 21 -10 | 31 *10 *10 | 41 *10", -2, 0},
		{"revived more often, and deleted again", two + "| 21 *10 *10 | 31 -10 -10 -10", 1, 0},
		{"deleted and revived in one patch", two + "| 21 -10 *10", 0, 0},
		{"revived and deleted in one patch", two + "| 21 *10 -10", 0, 0},
		{"the one deleted, the other revived", two + "| 21 -10 *11", 1, -1},
		{"deleted beside a New at its place", two + "| 21 +^,10:x -10 +10,11:y", 1, 0},
		{"edges play no part", two + "| 21 >10,11 /10,11 /^,10", 0, 0},
	} {
		g := built(t, c.why, setOf(c.set))
		if g.Vertices[2].Deleted != c.first || g.Vertices[3].Deleted != c.last || g.Vertices[0].Deleted != 0 || g.Vertices[1].Deleted != 0 {
			t.Errorf("%s: %s, want %d, %d", c.why, vertices(g), c.first, c.last)
		}
		if graph.Alive(g, 2) != (c.first <= 0) || graph.Alive(g, 3) != (c.last <= 0) {
			t.Errorf("%s: %s: alive: %t, %t", c.why, vertices(g), graph.Alive(g, 2), graph.Alive(g, 3))
		}
		for _, v := range g.Vertices[4:] {
			if v.Deleted != 0 {
				t.Errorf("%s: %s", c.why, vertices(g))
			}
		}
	}
}

// P7.1: edges of Join and Cut, of all patches together.
func TestJoins(t *testing.T) {
	three := "1 +^,$:a,b,c"
	const plain = "^>10 10>11 11>12 12>$"
	for _, c := range []struct{ why, set, want string }{
		{"none", three, plain},
		{"a Join", three + "| 21 >10,12", "^>10 10>11 10>12 11>12 12>$"},
		{"a Join against the lines", three + "| 21 >12,10", "^>10 10>11 11>12 12>$ 12>10"},
		{"a Join both ways", three + "| 21 >12,10 >10,12", "^>10 10>11 10>12 11>12 12>$ 12>10"},
		{"a Join from the top", three + "| 21 >^,12", "^>10 ^>12 10>11 11>12 12>$"},
		{"a Join to the bottom", three + "| 21 >10,$", "^>10 10>$ 10>11 11>12 12>$"},
		{"a Join of the top and the bottom", three + "| 21 >^,$", "^>$ ^>10 10>11 11>12 12>$"},
		{"a Join of the top and the bottom, no lines", "1 >^,$", "^>$"},
		{"a Join of own lines", "1 +^,$:a,b,c >.0,.2", "^>10 10>11 10>12 11>12 12>$"},
		{"a Join of lines of two patches", three + "| 2 +^,$:x | 312 >10,20 >20,12", "^>10 ^>20 10>11 10>20 11>12 12>$ 20>$ 20>12"},
		{"a Join twice in one patch", three + "| 21 >10,12 >10,12", "^>10 10>11 10>12 11>12 12>$"},
		{"a Join by two", three + "| 21 >10,12 | 31 >10,12", "^>10 10>11 10>12 11>12 12>$"},
		{"a Cut", three + "| 21 /10,12", plain},
		{"a Cut of a New's pair", three + "| 21 /10,11 /10,11 | 31 /^,10 /12,$", plain},
		{"a Join and a Cut in one patch", three + "| 21 >10,12 /10,12", plain},
		{"a Cut and a Join in one patch", three + "| 21 /10,12 >10,12", plain},
		{"a Cut by one that knows", three + "| 21 >10,12 | 312 /10,12", plain},
		{"a Cut by one that doesn't know", three + "| 21 >10,12 | 31 /10,12", plain},
		{"more Joins than Cuts", three + "| 21 >10,12 | 31 >10,12 | 41 /10,12", "^>10 10>11 10>12 11>12 12>$"},
		{"three Joins and two Cuts", three + "| 21 >10,12 /10,12 >10,12 | 31 >10,12 | 41 /10,12", "^>10 10>11 10>12 11>12 12>$"},
		{"as many, of several", three + "| 21 >10,12 | 31 >10,12 | 41 /10,12 | 51 /10,12", plain},
		{"fewer Joins than Cuts", three + "| 21 /10,12 | 31 /10,12 | 41 >10,12", plain},
		{"more Cuts, then Joins enough", three + "| 21 /10,12 /10,12 | 31 >10,12 >10,12 | 41 >10,12", "^>10 10>11 10>12 11>12 12>$"},
		{"a Cut of the pair turned about", three + "| 21 >10,12 | 31 /12,10", "^>10 10>11 10>12 11>12 12>$"},
		{"a Cut of another pair", three + "| 21 >10,12 | 31 /^,12 /10,$ /10,11 /11,12", "^>10 10>11 10>12 11>12 12>$"},
		{"a Join of a New's pair", three + "| 21 >10,11 >^,10 >12,$", plain},
		{"a Join of a New's pair, cut again", three + "| 21 >10,11 | 31 /10,11", plain},
		{"a Join of a New's pair, cut more often", three + "| 21 >10,11 | 31 /10,11 /10,11", plain},
		{"a Join of its own New's pair", "1 +^,$:a,b,c >.0,.1 >^,.0", plain},
		{"one pair by refs of unlike Deps", "1 +^,$:a | 2 +^,$:b | 0 +^,$:z | 3012 >10,20 | 412 /10,20", "^>00 ^>10 ^>20 00>$ 10>$ 20>$"},
		{"a pair of its own and of another's telling", "1 +^,$:a,b,c >.0,.2 | 21 /10,12", plain},
		{"deleted lines keep their edges", three + "| 21 -11 -10 | 31 >10,12", "^>10 10>11 10>12 11>12 12>$"},
	} {
		if g := built(t, c.why, setOf(c.set)); edges(g) != c.want {
			t.Errorf("%s: %s, want %s", c.why, edges(g), c.want)
		}
	}
}

// P7.1: the vertices rise by Patch, byte by byte, and then by N, as a number; edges by their places.
func TestRising(t *testing.T) {
	rising := []string{"\x00", "\x00\x00", " ", "0", "1", "10", "2", "A", "Z", "a", "a\x00", "aa", "ab", "b", "é", "\xff", "\xff\x00"}
	var set []api.Named
	for _, name := range rising {
		set = append(set, setOf("1 +^,$:" + strings.Repeat("x,", 11) + "x")[0])
		set[len(set)-1].Name = name
	}
	g := built(t, "names of any kind", set)
	if len(g.Vertices) != 2+12*len(rising) {
		t.Fatal(vertices(g))
	}
	for i, v := range g.Vertices[2:] {
		if (v.Id != api.Id{Patch: rising[i/12], N: i % 12}) || v.Line != "x" {
			t.Errorf("%d: %q %d", i, v.Id.Patch, v.Id.N)
		}
	}
	if !slices.IsSortedFunc(g.Edges, func(a, b [2]int) int { return slices.Compare(a[:], b[:]) }) || len(g.Edges) != 13*len(rising) {
		t.Error(g.Edges)
	}
}

// P7.1: lines of any bytes, at their limits, stand in their vertices byte by byte.
func TestLines(t *testing.T) {
	lines := []string{"", " ", "\x00", "\xff\xfe", "é", "\r", "\t>>>>>>>", "<<<<<< ", strings.Repeat("x", 500), strings.Repeat("\xff", 500)}
	set := []api.Named{{Name: "n", Patch: api.Patch{Note: "n", Ops: []api.Op{{Kind: api.OpNew, A: api.Ref{At: -1}, B: api.Ref{At: -1, N: 1}, Lines: lines}}}}}
	g := built(t, "any bytes", set)
	for i, l := range lines {
		if g.Vertices[i+2].Line != l {
			t.Errorf("%q, want %q", g.Vertices[i+2].Line, l)
		}
	}
	for _, n := range []int{1, 2, 299, 300} {
		many := make([]string, n)
		for i := range many {
			many[i] = strconv.Itoa(i)
		}
		set[0].Patch.Ops[0].Lines = many
		g := built(t, "many lines", set)
		if len(g.Vertices) != n+2 || len(g.Edges) != n+1 || g.Edges[0] != [2]int{0, 2} || g.Vertices[n+1].Line != strconv.Itoa(n-1) {
			t.Errorf("%d: %s, %s", n, vertices(g), edges(g))
		}
	}
	set[0].Patch.Ops[0].Lines = make([]string, 301)
	refused(t, "too many lines", set, api.ErrPatch)
}

// P7.1: Place of each vertex, and of ids that have none.
func TestPlace(t *testing.T) {
	for _, s := range []string{"", "1", "1 +^,$:a", "1 +^,$:a,b,c", "3 +^,$:a,b | 2 | 13 +30,31:c,d,e -30 | 53 +^,31:x"} {
		g := built(t, s, setOf(s))
		for i, v := range g.Vertices {
			if graph.Place(g, v.Id) != i {
				t.Errorf("%s: Place(%s) = %d, want %d", s, short(v.Id), graph.Place(g, v.Id), i)
			}
		}
		for _, name := range []string{"", "1", digit('1'), digit('2'), digit('3'), digit('5'), digit('0'), digit('f'), digit('1')[1:], digit('1') + "1", "\x00", "\xff"} {
			for _, n := range []int{-1 << 63, -2, -1, 0, 1, 2, 3, 4, 5, 1 << 32, 1<<63 - 1} {
				id := api.Id{Patch: name, N: n}
				want := slices.IndexFunc(g.Vertices, func(v api.Vertex) bool { return v.Id == id })
				if graph.Place(g, id) != want {
					t.Errorf("%s: Place(%s) = %d, want %d", s, short(id), graph.Place(g, id), want)
				}
			}
		}
	}
}

// P7.1, P0: Place in graphs that Build hasn't made.
func TestPlaceAnyGraph(t *testing.T) {
	if graph.Place(api.Graph{}, api.Id{}) != -1 || graph.Place(api.Graph{Edges: [][2]int{{0, 1}}}, api.Id{Patch: "a"}) != -1 {
		t.Error("a graph without vertices")
	}
	ids := []api.Id{{Patch: "b", N: 1}, {Patch: "b"}, {N: 1}, {Patch: "a", N: -1}, {}, {Patch: "c", N: 5}, {Patch: "a", N: 7}}
	var g api.Graph
	for i, id := range ids {
		g.Vertices = append(g.Vertices, api.Vertex{Id: id, Line: id.Patch, Above: ids[0], Below: ids[i]})
		for j, id := range ids {
			want := j
			if j > i {
				want = -1
			}
			if graph.Place(g, id) != want {
				t.Errorf("%d of them: Place(%q %d) = %d, want %d", i+1, id.Patch, id.N, graph.Place(g, id), want)
			}
		}
	}
}

// P7.1: Alive of lines, of the top and the bottom, and of places that aren't there.
func TestAlive(t *testing.T) {
	g := built(t, "alive", setOf("1 +^,$:a,b,c,d,e | 21 -11 -12 -12 -13 *14 | 31 *13"))
	for i, want := range []bool{false, false, true, false, false, true, true} {
		if graph.Alive(g, i) != want {
			t.Errorf("%d of %s: %t", i, vertices(g), !want)
		}
	}
	for _, i := range []int{-1 << 63, -7, -2, -1, 7, 8, 100, 1 << 32, 1<<63 - 1} {
		if graph.Alive(g, i) || graph.Alive(api.Graph{}, i) {
			t.Errorf("%d is alive", i)
		}
	}
	if graph.Alive(api.Graph{}, 0) {
		t.Error("a vertex of none is alive")
	}
	made := api.Graph{Vertices: []api.Vertex{
		{Id: api.Id{Patch: "a"}}, {Id: api.Id{N: 7}, Line: "x"}, {Id: api.Id{Patch: "a", N: 1}, Deleted: -1 << 63}, {Id: api.Id{Patch: "b"}, Deleted: 1<<63 - 1}, {Id: api.Id{Patch: "\x00"}},
	}}
	for i, want := range []bool{true, false, true, false, true, false} {
		if graph.Alive(made, i) != want {
			t.Errorf("%d of a graph that Build hasn't made: %t", i, !want)
		}
	}
}
