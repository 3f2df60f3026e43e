package render_test

import (
	"fmt"
	"slices"
	"strings"
	"testing"

	"tambour/api"
	"tambour/render"
)

// P10.1: lines with a doubt.
func TestDoubtful(t *testing.T) {
	play(t, []scene{
		{"the line above", "1 +^,$:a,b | 21 +11,$:x | 31 -11", "a [doubtful x]", "doubtful 20", "20: 2 3"},
		{"the line below", "1 +^,$:a,b | 21 +^,10:x | 31 -10", "[doubtful x] b", "doubtful 20", "20: 2 3"},
		{"the line above one that stands between two", "1 +^,$:a,b | 21 +10,11:x | 31 -10", "[doubtful x] b", "doubtful 20", "20: 2 3"},
		{"the line below one that stands between two", "1 +^,$:a,b | 21 +10,11:x | 31 -11", "a [doubtful x]", "doubtful 20", "20: 2 3"},
		{"both lines, by one", "1 +^,$:a,b | 21 +10,11:x | 31 -10 -11", "[doubtful x]", "doubtful 20", "20: 2 3"},
		{"both lines, by two", "1 +^,$:a,b | 21 +10,11:x | 31 -10 | 41 -11", "[doubtful x]", "doubtful 20", "20: 2 3 4"},
		{"both lines, by two, the second one ahead", "1 +^,$:a,b | 21 +10,11:x | 31 -11 | 41 -10", "[doubtful x]", "doubtful 20", "20: 2 3 4"},
		{"one line, by several", "1 +^,$:a,b | 21 -10 | 31 -10 | 41 +10,11:x | 51 -10", "[doubtful x] b", "doubtful 40", "40: 2 3 4 5"},
		{"deleted twice by one", "1 +^,$:a,b | 21 +10,11:x | 31 -10 -10", "[doubtful x] b", "doubtful 20", "20: 2 3"},
		{"a name below the line's", "1 +^,$:a,b | 31 +10,11:x | 21 -10", "[doubtful x] b", "doubtful 30", "30: 2 3"},
		{"names on both sides of the line's", "1 +^,$:a,b | 51 -11 | 31 +10,11:x | 21 -11 | 41 -10", "[doubtful x]", "doubtful 30", "30: 2 3 4 5"},
		{"all lines of a New", "1 +^,$:a,b | 21 +10,11:x,y,z | 31 -10", "[doubtful x] [doubtful y] [doubtful z] b", "doubtful 20; doubtful 21; doubtful 22", "20: 2 3; 21: 2 3; 22: 2 3"},
		{"lines of two New ops of one patch", "1 +^,$:a,b,c | 21 +10,11:x +11,12:y | 31 -11", "a [doubtful x] [doubtful y] c", "doubtful 20; doubtful 21", "20: 2 3; 21: 2 3"},
		{"one of two New ops", "1 +^,$:a,b,c | 21 +10,11:x +11,12:y | 31 -10", "[doubtful x] b y c", "doubtful 20", "20: 2 3"},
		{"several lines by several patches", "1 +^,$:a,b,c | 21 +10,11:x | 31 +11,12:y | 41 -11 | 51 -11", "a [doubtful x] [doubtful y] c", "doubtful 20; doubtful 30", "20: 2 4 5; 30: 3 4 5"},
		{"by the places of the lines, not as they stand", "1 +^,$:a,b,c | 31 +10,11:x | 21 +11,12:y | 41 -11", "a [doubtful x] [doubtful y] c", "doubtful 30; doubtful 20", "20: 2 4; 30: 3 4"},
		{"each deletes what the other one's line stands beside", "1 +^,$:a,b,c | 21 +10,11:x -11 | 31 +11,12:y -10", "[doubtful x] [doubtful y] c", "doubtful 20; doubtful 30", "20: 2 3; 30: 2 3"},
		{"deleted by its own patch, too", "1 +^,$:a,b | 21 +10,11:x -10 | 31 -10", "[doubtful x] b", "doubtful 20", "20: 2 3"},
		{"deleted by one in its past, too", "1 +^,$:a,b | 21 -10 | 312 +10,11:x | 41 -10", "[doubtful x] b", "doubtful 30", "30: 3 4"},
		{"a line at the top, the bottom plays no part", "1 +^,$:a | 21 +^,10:x | 31 -10 | 4 >^,$", "[doubtful x]", "doubtful 20", "20: 2 3"},
		{"revived by one of two that have deleted it", "1 +^,$:a,b | 21 +10,11:x | 31 -10 | 41 -10 *10", "[doubtful x] b", "doubtful 20", "20: 2 3 4"},
		{"revived, but deleted once more", "1 +^,$:a,b | 21 +10,11:x | 31 -10 -10 | 41 *10", "[doubtful x] b", "doubtful 20", "20: 2 3"},
		{"a line that was deleted and revived", "1 +^,$:a,b | 21 +10,11:x | 31 -10 | 42 -20 | 52 *20", "[doubtful x] b", "doubtful 20", "20: 2 3"},
		{"a line of a patch that needs others", "1 +^,$:a | 21 +10,$:b | 312 +10,20:x | 42 -20", "a [doubtful x]", "doubtful 30", "30: 3 4"},
		{"a line beside one of another patch than the deleter's", "1 +^,$:a | 2 +^,$:b | 312 >10,20 | 4123 +10,20:x | 52 -20", "a [doubtful x]", "doubtful 40", "40: 4 5"},
	})
}

// P10.1: no doubt where nothing was deleted that the line stands beside.
func TestNothingDeleted(t *testing.T) {
	play(t, []scene{
		{"another line", "1 +^,$:a,b,c | 21 +10,11:x | 31 -12", "a x b", "", ""},
		{"a line between those beside which it stands", "1 +^,$:a,b,c | 21 +10,12:x | 31 -11", "a x c", "", ""},
		{"a line next to it, beside which it doesn't stand", "1 +^,$:a,b,c | 21 +11,$:x | 31 -12", "a b x", "", ""},
		{"a line of the same New", "1 +^,$:a,b | 21 -10", "b", "", ""},
		{"revived by the one that deleted it", "1 +^,$:a,b | 21 +10,11:x | 31 -10 *10", "a x b", "", ""},
		{"revived by another one", "1 +^,$:a,b | 21 +10,11:x | 31 -10 | 41 *10", "a x b", "", ""},
		{"revived alone", "1 +^,$:a,b | 21 +10,11:x | 31 *10", "a x b", "", ""},
		{"the line itself is deleted", "1 +^,$:a,b | 21 +10,11:x | 31 -10 | 42 -20", "b", "", ""},
		{"an edge of it is cut", "1 +^,$:a,b | 21 +10,11:x | 31 /10,11 >10,$", "a x b", "", ""},
	})
}

// P10.1: no doubt where the patches know each other.
func TestNoDoubt(t *testing.T) {
	play(t, []scene{
		{"its own patch", "1 +^,$:a,b | 21 +10,11:x -10", "x b", "", ""},
		{"its own patch deletes both", "1 +^,$:a,b | 21 -11 +10,11:x -10", "x", "", ""},
		{"the deleter in the past", "1 +^,$:a,b | 21 -10 | 312 +10,11:x", "x b", "", ""},
		{"the deleter far in the past", "1 +^,$:a,b | 21 -10 | 32 | 43 | 514 +10,11:x", "x b", "", ""},
		{"the line in the deleter's past", "1 +^,$:a,b | 21 +10,11:x | 312 -10", "x b", "", ""},
		{"the line far in the deleter's past", "1 +^,$:a,b | 21 +10,11:x | 32 | 43 | 514 -10", "x b", "", ""},
		{"a patch that needs both", "1 +^,$:a,b | 21 +10,11:x | 31 -10 | 423", "x b", "", ""},
		{"a patch of a name below theirs that needs both", "5 +^,$:a,b | 25 +50,51:x | 35 -50 | 123", "x b", "", ""},
		{"a patch that needs both through others", "1 +^,$:a,b | 21 +10,11:x | 31 -10 | 42 | 53 | 645 | 76", "x b", "", ""},
		{"a patch that needs the one, and the other through others", "1 +^,$:a,b | 21 +10,11:x | 31 -10 | 43 | 54 | 625", "x b", "", ""},
		{"all deleters, each by another patch", "1 +^,$:a,b | 21 +10,11:x | 31 -10 | 41 -10 -11 | 523 | 624", "x", "", ""},
		{"a patch that needs many", "1 +^,$:a,b | 21 +10,11:x | 31 +10,11:y | 41 -10 | 51 -11 | 62345 >20,30", "x y", "", ""},
	})
}

// P10.1: a doubt of those deleters alone that don't know the line's patch, nor it them.
func TestSomeDoubt(t *testing.T) {
	play(t, []scene{
		{"a patch that needs the line's alone", "1 +^,$:a,b | 21 +10,11:x | 31 -10 | 42", "[doubtful x] b", "doubtful 20", "20: 2 3"},
		{"a patch that needs the deleter alone", "1 +^,$:a,b | 21 +10,11:x | 31 -10 | 43", "[doubtful x] b", "doubtful 20", "20: 2 3"},
		{"a patch each, and none that needs both", "1 +^,$:a,b | 21 +10,11:x | 31 -10 | 42 | 53 | 61", "[doubtful x] b", "doubtful 20", "20: 2 3"},
		{"what both need knows neither", "1 +^,$:a,b | 71 | 217 +10,11:x | 317 -10", "[doubtful x] b", "doubtful 20", "20: 2 3"},
		{"one of two deleters", "1 +^,$:a,b | 21 +10,11:x | 31 -10 | 41 -10 | 523", "[doubtful x] b", "doubtful 20", "20: 2 4"},
		{"the other one", "1 +^,$:a,b | 21 +10,11:x | 31 -10 | 41 -10 | 524", "[doubtful x] b", "doubtful 20", "20: 2 3"},
		{"the deleters know each other, the line's patch neither", "1 +^,$:a,b | 21 +10,11:x | 31 -10 | 41 -10 | 534", "[doubtful x] b", "doubtful 20", "20: 2 3 4"},
		{"one deleter needs the other", "1 +^,$:a,b | 21 +10,11:x | 31 -10 | 413 -10", "[doubtful x] b", "doubtful 20", "20: 2 3 4"},
		{"a chain of three that know their neighbours alone", "1 +^,$:a,b | 21 +10,11:x | 31 -10 | 41 -10 | 523 | 634", "[doubtful x] b", "doubtful 20", "20: 2 4"},
		{"a patch that needs one line's alone of two", "1 +^,$:a,b,c | 21 +10,11:x | 31 +11,12:y | 41 -11 | 524", "a x [doubtful y] c", "doubtful 30", "30: 3 4"},
		{"of the line above one that is known, of the line below one that isn't", "1 +^,$:a,b | 21 +10,11:x | 31 -10 | 41 -11 | 523", "[doubtful x]", "doubtful 20", "20: 2 4"},
		{"the other way about", "1 +^,$:a,b | 21 +10,11:x | 31 -10 | 41 -11 | 524", "[doubtful x]", "doubtful 20", "20: 2 3"},
	})
}

// P10.1: doubts of lines that stand in other conflicts, and kinds of conflicts beside each other.
func TestSeveralKinds(t *testing.T) {
	play(t, []scene{
		{"in a tangled item", "1 +^,$:a,b | 21 +10,11:x,y >.1,.0 | 31 -10", "[tangled x y] b", "tangled 20 21", "20: 2 3; 21: 2 3"},
		{"one line of a tangled item", "1 +^,$:a,b | 21 +10,11:x | 31 -10 | 412 >11,20", "[tangled b x]", "tangled 11 20", "20: 2 3"},
		{"in a knot whose other lines are deleted", "1 +^,$:a,b | 21 +11,10:x | 31 -10 -11", "[doubtful x]", "doubtful 20", "20: 2 3"},
		{"in a run of several", "1 +^,$:a,b | 21 +10,11:x | 31 -10 | 41 +10,11:y", "[order x / y] b", "order 20 40", "20: 2 3; 40: 3 4"},
		{"one item of a run of several", "1 +^,$:a,b | 21 +10,11:x | 31 -10 | 41 +^,11:y", "[order x / y] b", "order 20 40", "20: 2 3"},
		{"a tangled item of a run of several", "1 +^,$:a,b | 21 +10,11:x,y >.1,.0 | 31 -10 | 4 +^,$:z", "[order x y b / z]", "order 20 21 11 40", "20: 2 3; 21: 2 3"},
		{"tangled, order and doubtful", "1 +^,$:a,b,c,d | 21 >11,10 +12,13:x | 31 +11,12:p -13 | 41 +11,12:q", "[tangled a b] [order p / q] c [doubtful x]", "tangled 10 11; order 30 40; doubtful 20", "20: 2 3"},
		{"doubtful, tangled and order", "1 +^,$:a,b,c,d | 21 +^,10:x >12,11 | 31 -10 | 413 +12,13:p | 513 +12,13:q", "[doubtful x] [tangled b c] [order p / q] d", "doubtful 20; tangled 11 12; order 40 50", "20: 2 3"},
		{"two of each", "1 +^,$:a,b,c,d,e,f | 21 >11,10 >14,13 +10,12:x +12,13:y | 31 -12 | 413 +14,15:p +15,$:r | 513 +14,15:q +15,$:s",
			"[tangled a b] [doubtful x] [doubtful y] [tangled d e] [order p / q] f [order r / s]",
			"tangled 10 11; doubtful 20; doubtful 21; tangled 13 14; order 40 50; order 41 51", "20: 2 3; 21: 2 3"},
	})
}

// P10.1: names are taken as they are told: such as are no digests, and as many as make doubts of long lists.
func TestManyPatches(t *testing.T) {
	base := setOf("1 +^,$:a,b")
	for _, n := range []int{1, 62, 63, 64, 65, 127, 128, 200} {
		set, names := slices.Clone(base), []string{"5"}
		for i := range n {
			name := fmt.Sprintf("%c%d", "3579"[i%4], i)
			names = append(names, name)
			set = append(set, api.Named{Name: name, Patch: setOf("21 -10")[0].Patch})
		}
		slices.Sort(names)
		set = append(set, api.Named{Name: "5", Patch: setOf("21 +10,11:x,y")[0].Patch})
		v, l := shown(t, "many deleters", set)
		want := []api.Doubt{{Line: api.Id{Patch: "5"}, Patches: names}, {Line: api.Id{Patch: "5", N: 1}, Patches: names}}
		if rows(v) != "[doubtful x] [doubtful y] b" || !sameDoubts(l, want) {
			t.Errorf("%d: %s; %s", n, rows(v), doubts(l))
		}
	}
}

// P10.1: as many as there may be: each puts a line, and deletes one; some are known by a patch that needs them.
func TestManyDoubts(t *testing.T) {
	name := func(i int) string { return fmt.Sprintf("%064x", i) }
	const patches = 150
	set := []api.Named{{Name: name(0), Patch: setOf("0 +^,$:" + strings.Repeat("a,", patches) + "a")[0].Patch}}
	for i := 1; i < patches; i++ {
		p := api.Patch{Deps: []string{name(0)}, Ops: []api.Op{opOf(fmt.Sprintf("+0%d,0%d:x", i, i+1), "0"), opOf(fmt.Sprintf("-0%d", i+1), "0")}}
		set = append(set, api.Named{Name: name(i), Patch: p})
	}
	v, l := shown(t, "each deletes what the next one stands beside", set)
	if len(v.Conflicts) != patches-2 || len(l) != patches-2 {
		t.Errorf("%d; %d", len(v.Conflicts), len(l))
	}
	for i, d := range l {
		if d.Line != (api.Id{Patch: name(i + 2)}) || !slices.Equal(d.Patches, []string{name(i + 1), name(i + 2)}) {
			t.Errorf("%d: %+v", i, d)
		}
	}
	for i := 1; i+1 < patches; i += 3 {
		set = append(set, api.Named{Name: fmt.Sprintf("%064x", 1000-i), Patch: api.Patch{Deps: []string{name(i), name(i + 1)}}})
	}
	v, l = shown(t, "every third pair is known", set)
	for _, d := range l {
		var at int
		fmt.Sscanf(d.Line.Patch, "%x", &at)
		if (at-1)%3 == 1 {
			t.Errorf("%+v", d)
		}
	}
	if len(l) != patches-2-(patches-2)/3-1 || len(v.Conflicts) != len(l) {
		t.Errorf("%d; %d", len(v.Conflicts), len(l))
	}
}

// P10.1: Text of views that are told, with and without rows.
func TestText(t *testing.T) {
	row := func(s string) api.Row { return api.Row{Text: s} }
	for _, c := range []struct {
		rows []api.Row
		want string
	}{
		{nil, ""},
		{[]api.Row{}, ""},
		{[]api.Row{row("")}, ""},
		{[]api.Row{row("a")}, "a"},
		{[]api.Row{row(""), row("")}, "\n"},
		{[]api.Row{row("a"), row("")}, "a\n"},
		{[]api.Row{row(""), row("a")}, "\na"},
		{[]api.Row{row("a"), row(""), row("b")}, "a\n\nb"},
		{[]api.Row{row(""), row(""), row("")}, "\n\n"},
		{[]api.Row{row("a\nb"), row("c")}, "a\nb\nc"},
		{[]api.Row{row("\xff"), row("é\x00"), row("\r")}, "\xff\né\x00\n\r"},
		{[]api.Row{{Text: ">>>>>>> order", Marker: true}, {Text: "x", Id: api.Id{Patch: "p", N: 7}}, {Text: "=======", Marker: true}, row("<<<<<<<")}, ">>>>>>> order\nx\n=======\n<<<<<<<"},
		{[]api.Row{{Marker: true}, {Id: api.Id{Patch: "p"}}}, "\n"},
		{slices.Repeat([]api.Row{row("x")}, 1000), strings.Repeat("x\n", 999) + "x"},
	} {
		v := api.View{Rows: c.rows}
		if s := render.Text(v); s != c.want {
			t.Errorf("%v: %q, want %q", c.rows, s, c.want)
		}
		v.Conflicts = []api.Conflict{{Kind: "order", Lines: []api.Id{{Patch: "p"}}}, {}}
		if s := render.Text(v); s != c.want {
			t.Errorf("%v, with conflicts: %q, want %q", c.rows, s, c.want)
		}
	}
}

// P10.1: Text of what is shown.
func TestTextOfSets(t *testing.T) {
	for _, c := range []struct{ set, want string }{
		{"", ""},
		{"1", ""},
		{"1 +^,$:", ""},
		{"1 +^,$:,", "\n"},
		{"1 +^,$:a", "a"},
		{"1 +^,$:a,", "a\n"},
		{"1 +^,$:,a,,b", "\na\n\nb"},
		{"1 +^,$:a,b | 21 -10 -11", ""},
		{"1 +^,$:a,b | 21 +10,11:x | 31 +10,11:,y", "a\n>>>>>>> order\nx\n=======\n\ny\n<<<<<<<\nb"},
		{"1 +^,$:,b | 21 >11,10", ">>>>>>> tangled\n\nb\n<<<<<<<"},
		{"1 +^,$:a,b | 21 +10,11: | 31 -11", "a\n>>>>>>> doubtful\n\n<<<<<<<"},
		{"1 +^,$:>>>>>>x,<<<<<<,====== | 2", ">>>>>>x\n<<<<<<\n======"},
	} {
		if v, _ := shown(t, c.set, setOf(c.set)); render.Text(v) != c.want {
			t.Errorf("%s: %q, want %q", c.set, render.Text(v), c.want)
		}
	}
}
