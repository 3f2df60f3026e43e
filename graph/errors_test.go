package graph_test

import (
	"slices"
	"strings"
	"testing"

	"tambour/api"
	"tambour/patch"
)

// P7.1, R2: order.Check's errors, alone, beside each other and beside all others (R1).
func TestCheckErrors(t *testing.T) {
	for _, c := range []struct {
		why, set string
		want     api.Errno
	}{
		{"a name twice", "1 | 1", api.ErrTwice},
		{"a name twice, unlike patches", "1 +^,$:a | 1 +^,$:b", api.ErrTwice},
		{"a name three times, beside others", "2 | 1 | 1 | 3 | 1", api.ErrTwice},
		{"twice, beside a Dep that isn't there", "1 | 1 | 23", api.ErrTwice},
		{"twice, beside a ring", "12 | 21 | 3 | 3", api.ErrTwice},
		{"twice, beside a patch that isn't right", "1 | 1 | 2 +^,^:a", api.ErrTwice},
		{"twice, the patches aren't right", "1 ?^,$ | 1 ?^,$", api.ErrTwice},
		{"twice, beside a ref that means no line", "1 | 21 -10 | 2 | 31 -10", api.ErrTwice},
		{"all faults", "1 | 1 | 23 | 4 ?^,$ | 54 -40 | 66", api.ErrTwice},
		{"a Dep that isn't there", "21", api.ErrDep},
		{"a Dep that isn't there, beside one that is", "1 | 312", api.ErrDep},
		{"itself", "11", api.ErrDep},
		{"a ring of two", "12 | 21", api.ErrDep},
		{"a ring of three, beside others", "12 | 23 | 31 | 4 +^,$:a | 54 -40", api.ErrDep},
		{"a Dep that isn't there, and a patch that isn't right", "21 | 3 ?^,$", api.ErrDep},
		{"a Dep that isn't there, of a patch that isn't right", "21 ?^,$", api.ErrDep},
		{"a ring of patches that aren't right", "12 ?^,$ | 21 ?^,$", api.ErrDep},
		{"itself, named by an op", "1 +^,$:a | 212 -20 +^,$:b", api.ErrDep},
		{"a Dep that isn't there, and a ref that means no line", "1 | 21 -10 | 34", api.ErrDep},
		{"a Dep that isn't there, its line is meant", "21 -10", api.ErrDep},
	} {
		refused(t, c.why, setOf(c.set), c.want)
	}
	empty := []api.Named{{}, {}}
	refused(t, "the empty name twice", empty, api.ErrTwice)
	refused(t, "the empty name, and a Dep that isn't there", []api.Named{{}, setOf("21")[0]}, api.ErrDep)
	refused(t, "the empty name that needs itself", []api.Named{{Patch: api.Patch{Deps: []string{""}}}}, api.ErrDep)
}

// P7.1, R2: ErrPatch of patches that aren't right, for each rule of theirs, alone and beside others.
func TestPatchErrors(t *testing.T) {
	good := setOf("1 +^,$:a,b | 2 | 31 -10")
	lacking := setOf("1 +^,$:a,b | 2 | 412 -20 -12")
	for why, p := range map[string]api.Patch{
		"a Note too long":            {Note: strings.Repeat("n", 101)},
		"Deps that fall":             {Deps: []string{digit('2'), digit('1')}},
		"a Dep twice":                {Deps: []string{digit('1'), digit('1')}},
		"too many ops":               {Deps: []string{digit('1')}, Ops: slices.Repeat([]api.Op{opOf("-10", "1")}, 401)},
		"too many lines":             {Ops: []api.Op{opOf("+^,$:"+strings.Repeat(",", 300), "")}},
		"too many lines, of two New": {Ops: []api.Op{opOf("+^,$:"+strings.Repeat(",", 299), ""), opOf("+^,$:x", "")}},
		"too many bytes":             {Ops: []api.Op{opOf("+^,$:"+strings.Repeat(strings.Repeat("x", 500)+",", 140), "")}},
	} {
		refused(t, why, slices.Concat(good, []api.Named{{Name: digit('5'), Patch: p}}), api.ErrPatch)
		refused(t, why+", beside a ref that means no line", slices.Concat(lacking, []api.Named{{Name: digit('5'), Patch: p}}), api.ErrPatch)
	}
	for _, op := range []string{
		"?^,$", "+^,$", "+^,$:=======", "+^,$:a,>>>>>>> x", "+^,^:a", "+$,^:a", "+^,10:a +$,10:b", "+10,^:x", "+10,10:x", "+.0,$:x", "+^,.1:x,y",
		"+^,$:x +.1,$:y", "+10,:x", ">10,10", ">$,10", ">10,^", ">.0,10", ">10,.0", ">^,$:x", "/10,10", "/$,10", "/10,^", "/^,$:", "/10,.5",
		"-^", "-$", "-.0", "+^,$:x -.0", "-10,11", "-10:x", "-1300", "-1-1", "-90", "*^", "*$", "+^,$:x *.0", "*10,^", "*10:x", "*1300", "*1-1",
		"+1300,$:x", "+^,1300:x", ">1300,$", ">^,1300", "/1300,$", "/^,1300", "+91,$:x", ">^,91",
	} {
		bad := setOf("51 " + op)
		refused(t, op, slices.Concat(good, bad), api.ErrPatch)
		refused(t, op+", beside a ref that means no line", slices.Concat(lacking, bad), api.ErrPatch)
	}
	refused(t, "a ref that means no line, and an op behind it that isn't right", setOf("1 | 21 -10 ?^,$"), api.ErrPatch)
}

// P7.1: names are taken as they are told; but a name that is no digest can't be needed, as Deps of right patches are digests.
func TestNames(t *testing.T) {
	p := setOf("1 +^,$:a,b")[0].Patch
	name, _ := patch.Name(p)
	needs := api.Patch{Deps: []string{name}, Ops: []api.Op{opOf("-01", "0")}}
	g := built(t, "its digest", []api.Named{{Name: name, Patch: p}, {Name: "x", Patch: needs}})
	if g.Vertices[3].Id != (api.Id{Patch: name, N: 1}) || g.Vertices[3].Deleted != 1 {
		t.Error(vertices(g))
	}
	other := setOf("1 +^,$:z")[0].Patch
	g = built(t, "another one's digest", []api.Named{{Name: name, Patch: setOf("1 +^,$:y,z")[0].Patch}, {Name: "\xff", Patch: needs}, {Name: "0", Patch: other}})
	if vertices(g) != `^ $ "0"0=z(^,$) `+short(api.Id{Patch: name})+`=y(^,$) `+short(api.Id{Patch: name, N: 1})+`=z(^,$)+1` {
		t.Error(vertices(g))
	}
	g = built(t, "one patch by three names", []api.Named{{Name: "b", Patch: other}, {Name: " ", Patch: other}, {Name: strings.Repeat("long", 5000), Patch: other}})
	if len(g.Vertices) != 5 || g.Vertices[2].Id.Patch != " " || g.Vertices[3].Id.Patch != "b" || edges(g)[:7] != `^>" "0 ` {
		t.Error(vertices(g), edges(g))
	}
	for _, p := range []api.Patch{{}, p, other} {
		refused(t, "the empty name", []api.Named{{Patch: p}}, api.ErrPatch)
		refused(t, "the empty name, beside others", slices.Concat(setOf("1 +^,$:a | 21 -10"), []api.Named{{Patch: p}}), api.ErrPatch)
		refused(t, "the empty name, beside a ref that means no line", slices.Concat(setOf("1 +^,$:a | 21 -11"), []api.Named{{Patch: p}}), api.ErrPatch)
	}
	refused(t, "the empty name, its refs mean no line", []api.Named{setOf("1")[0], {Patch: setOf("21 -10")[0].Patch}}, api.ErrPatch)
	for _, n := range []string{"x", "", digit('a')[1:], digit('a') + "a", digit('A'), digit('g'), "\x00"} {
		set := []api.Named{{Name: n, Patch: p}, {Name: "m", Patch: api.Patch{Deps: []string{n}}}}
		refused(t, "a Dep that is no digest", set, api.ErrPatch)
		refused(t, "a Dep that is no digest, and isn't there", set[1:], api.ErrDep)
	}
}

// P7.1, R2: ErrVertex, of refs in each kind of op, as A and as B, to patches with no lines, one line and several.
func TestVertexErrors(t *testing.T) {
	for _, c := range []struct{ set, past, within string }{
		{"1", "10", ""},
		{"1", "11", ""},
		{"1", "1299", ""},
		{"1 +^,$:a", "11", "10"},
		{"1 +^,$:a", "12", "10"},
		{"1 +^,$:a", "1299", "10"},
		{"1 +^,$:a,b +^,.0:c", "13", "12"},
		{"1 +^,$:" + strings.Repeat("x,", 298) + "x", "1299", "1298"},
	} {
		for _, op := range []string{"+?,$:x,y", "+^,?:x,y", "+?,20:x", "+20,?:x", "+^,$:x +.0,?:y", "+^,$:x +?,.0:y", ">?,$", ">^,?", ">?,20", ">20,?", "/?,$", "/^,?", "/?,20", "/20,?", "-?", "*?"} {
			ahead := c.set + "| 2 +^,$:a | 412 "
			refused(t, op+" "+c.past, setOf(ahead+strings.ReplaceAll(op, "?", c.past)), api.ErrVertex)
			refused(t, op+" "+c.past+", beside others", setOf(ahead+strings.ReplaceAll(op, "?", c.past)+"| 5 +^,$:a | 75 -50"), api.ErrVertex)
			if c.within != "" {
				built(t, op+" "+c.within, setOf(ahead+strings.ReplaceAll(op, "?", c.within)))
			}
		}
	}
}

// P7.1: ErrVertex hangs on what the meant patch has, not on what others have; what isn't told is no ref.
func TestVertexNear(t *testing.T) {
	refused(t, "the other Dep has it", setOf("1 +^,$:a | 2 +^,$:a,b | 312 -11"), api.ErrVertex)
	refused(t, "it has it itself", setOf("1 +^,$:a | 21 +^,$:a,b -11"), api.ErrVertex)
	refused(t, "a patch that isn't a Dep has it", setOf("1 +^,$:a | 2 +^,$:a,b | 31 -11"), api.ErrVertex)
	refused(t, "the last op of many", setOf("1 +^,$:a | 21"+strings.Repeat(" -10", 399)+" -11"), api.ErrVertex)
	refused(t, "the first op of many", setOf("1 +^,$:a | 21 -11"+strings.Repeat(" -10", 399)), api.ErrVertex)
	refused(t, "several", setOf("1 | 21 -10 | 31 *10 | 412 >10,21"), api.ErrVertex)
	if g := built(t, "the first Dep has no lines", setOf("1 | 2 +^,$:a | 312 -20 | 412 *20 -20")); vertices(g) != "^ $ 20=a(^,$)+1" {
		t.Error(vertices(g))
	}
	if g := built(t, "no Deps at all", setOf("1 +^,$:a >^,.0 /.0,$")); edges(g) != "^>10 10>$" {
		t.Error(edges(g))
	}
}
