package render_test

import (
	"slices"
	"strings"
	"testing"

	"tambour/api"
	"tambour/render"
)

// refused holds what Show and Doubts answer of a set in all its orders: that error, and nothing beside it (R2).
func refused(t *testing.T, why string, set []api.Named, want api.Errno) {
	t.Helper()
	asTheWordsSay(t, set)
	for _, s := range turns(set) {
		if v, e := render.Show(s); !only(e, want) || len(v.Rows) != 0 || len(v.Conflicts) != 0 {
			t.Errorf("%s: %s; %s; %v, want %v", why, rows(v), conflicts(v), e, want)
		}
		if l, e := render.Doubts(s); !only(e, want) || len(l) != 0 {
			t.Errorf("%s: %s; %v, want %v", why, doubts(l), e, want)
		}
	}
}

// P10.1, R1, R2: each of graph.Build's errors, alone and beside those that stand behind it.
func TestErrors(t *testing.T) {
	for _, c := range []struct {
		why, set string
		want     api.Errno
	}{
		{"a name twice", "1 +^,$:a | 1 +^,$:a", api.ErrTwice},
		{"a name twice, unlike patches", "1 +^,$:a | 2 +^,$:x | 1 +^,$:b", api.ErrTwice},
		{"a name twice, a Dep that isn't there, a patch that isn't right, a ref that means no line", "1 | 1 | 23 | 4 ?^,$ | 54 -40", api.ErrTwice},
		{"a Dep that isn't there", "1 +^,$:a | 213 +10,$:x", api.ErrDep},
		{"itself", "11 +^,$:a", api.ErrDep},
		{"a ring", "12 +^,$:a | 21 +^,$:b | 3 +^,$:c", api.ErrDep},
		{"a ring, a patch that isn't right, a ref that means no line", "12 | 21 | 4 ?^,$ | 54 -40", api.ErrDep},
		{"a patch that isn't right", "1 +^,$:a | 2 +^,^:x", api.ErrPatch},
		{"a marker for a line", "1 +^,$:a,<<<<<<<,b", api.ErrPatch},
		{"a Delete of its own line", "1 +^,$:a -.0", api.ErrPatch},
		{"a Delete of the top", "1 +^,$:a -^", api.ErrPatch},
		{"a patch that isn't right, and a ref that means no line", "1 | 21 -10 | 3 ?^,$", api.ErrPatch},
		{"a Delete that means no line", "1 +^,$:a | 21 -11", api.ErrVertex},
		{"a New that means no line, beside conflicts", "1 +^,$:a | 2 +^,$:b | 31 +11,$:x", api.ErrVertex},
		{"a Join that means no line", "1 +^,$:a | 21 >10,11", api.ErrVertex},
	} {
		refused(t, c.why, setOf(c.set), c.want)
	}
	one := setOf("1 +^,$:a")
	refused(t, "the empty name", slices.Concat(one, []api.Named{{Patch: one[0].Patch}}), api.ErrPatch)
	refused(t, "the empty name twice", []api.Named{{}, {}}, api.ErrTwice)
	refused(t, "a Dep that is no digest", []api.Named{{Name: "x"}, {Name: "y", Patch: api.Patch{Deps: []string{"x"}}}}, api.ErrPatch)
	refused(t, "too many lines", setOf("1 +^,$:"+strings.Repeat(",", 300)), api.ErrPatch)
	long := setOf("1")
	long[0].Patch.Note = strings.Repeat("n", 101)
	refused(t, "a Note too long", long, api.ErrPatch)
}
