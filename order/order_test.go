package order_test

import (
	"errors"
	"fmt"
	"slices"
	"strings"
	"testing"

	"tambour/api"
	"tambour/order"
)

// named is a patch of that name, which needs these.
func named(name string, deps ...string) api.Named {
	return api.Named{Name: name, Patch: api.Patch{Deps: deps}}
}

// setOf reads a set: its patches are parted by spaces; of each the first letter is its name, the others are its Deps.
func setOf(s string) []api.Named {
	var out []api.Named
	for _, p := range strings.Fields(s) {
		all := strings.Split(p, "")
		out = append(out, named(all[0], all[1:]...))
	}
	return out
}

// letters are names of one letter each.
func letters(s string) []string {
	return strings.Split(s, "")
}

// clone is a set in memory of its own.
func clone(set []api.Named) []api.Named {
	out := slices.Clone(set)
	for i, p := range out {
		out[i].Patch.Deps = slices.Clone(p.Patch.Deps)
	}
	return out
}

// same holds sets against each other.
func same(a, b []api.Named) bool {
	return slices.EqualFunc(a, b, func(p, q api.Named) bool {
		return p.Name == q.Name && p.Patch.Note == q.Patch.Note && slices.Equal(p.Patch.Deps, q.Patch.Deps) &&
			slices.EqualFunc(p.Patch.Ops, q.Patch.Ops, func(o, x api.Op) bool {
				return o.Kind == x.Kind && o.A == x.A && o.B == x.B && slices.Equal(o.Lines, x.Lines)
			})
	})
}

// plain tells a set's names and Deps.
func plain(set []api.Named) string {
	var out []string
	for _, p := range set {
		out = append(out, fmt.Sprintf("%q%q", p.Name, p.Patch.Deps))
	}
	return strings.Join(out, " ")
}

// only says whether e is the error n, and no other one; for api.OK, whether it is nil.
func only(e error, n api.Errno) bool {
	if n == api.OK {
		return e == nil
	}
	for i := range api.Errno(100) {
		if errors.Is(e, i) != (i == n) {
			return false
		}
	}
	var got api.Errno
	return errors.As(e, &got) && got == n
}

// turns are all orders of a small set, some of a greater one.
func turns(set []api.Named) [][]api.Named {
	if len(set) <= 1 {
		return [][]api.Named{set}
	}
	if len(set) > 5 {
		back := slices.Clone(set)
		slices.Reverse(back)
		half := len(set) / 2
		return [][]api.Named{set, back, slices.Concat(set[half:], set[:half]), slices.Concat(back[half:], back[:half])}
	}
	var out [][]api.Named
	for i, p := range set {
		for _, rest := range turns(slices.Concat(set[:i], set[i+1:])) {
			out = append(out, slices.Concat([]api.Named{p}, rest))
		}
	}
	return out
}

// checks holds Check, Linear and Missing against what the test says of a set, told in all orders.
func checks(t *testing.T, why string, set []api.Named, want api.Errno, names ...string) {
	t.Helper()
	asTheWordsSay(t, set)
	for _, s := range turns(set) {
		if e := order.Check(s); !only(e, want) {
			t.Errorf("%s: Check(%.300s) = %v, want %v", why, plain(s), e, want)
		}
		if l, e := order.Linear(s); !only(e, want) || !slices.Equal(l, names) {
			t.Errorf("%s: Linear(%.300s) = %q, %v, want %q, %v", why, plain(s), l, e, names, want)
		}
		for _, have := range [][]string{nil, {}, {"z"}, {"a", "b"}, names} {
			l, e := order.Missing(s, have)
			if !only(e, want) || want != api.OK && len(l) != 0 {
				t.Errorf("%s: Missing(%.300s, %.300q) = %q, %v, want %v", why, plain(s), have, l, e, want)
			}
		}
	}
}

// P6.1: the chapter's example.
func TestExample(t *testing.T) {
	for _, set := range turns(setOf("a ba ca")) {
		if l, e := order.Linear(set); e != nil || !slices.Equal(l, letters("abc")) || order.Check(set) != nil {
			t.Error(l, e)
		}
		if l := order.Past(set, "b"); !slices.Equal(l, letters("a")) {
			t.Error(l)
		}
		if l := order.Heads(set); !slices.Equal(l, letters("bc")) {
			t.Error(l)
		}
		if l, e := order.Missing(set, letters("ac")); e != nil || !slices.Equal(l, letters("b")) {
			t.Error(l, e)
		}
	}
}

// P6.1: sets that are closed, and no sets at all.
func TestCheckClosed(t *testing.T) {
	checks(t, "nil", nil, api.OK)
	checks(t, "no patches", []api.Named{}, api.OK)
	checks(t, "one", setOf("a"), api.OK, "a")
	checks(t, "two apart", setOf("a b"), api.OK, "a", "b")
	checks(t, "two", setOf("ab b"), api.OK, "b", "a")
	checks(t, "a Dep told twice", setOf("abb b"), api.OK, "b", "a")
	checks(t, "Deps that fall", setOf("acb b c"), api.OK, "b", "c", "a")
	checks(t, "all needs of needs told", setOf("abcd bcd cd d"), api.OK, "d", "c", "b", "a")
	checks(t, "two ways to one", setOf("abc bd cd d"), api.OK, "d", "b", "c", "a")
	checks(t, "the empty name", []api.Named{named(""), named("a", "")}, api.OK, "", "a")
	checks(t, "the empty name that needs", []api.Named{named("", "a"), named("a")}, api.OK, "a", "")
}

// P6.1: ErrTwice, of a name told twice, alone and beside what ErrDep is for (R1).
func TestCheckTwice(t *testing.T) {
	for why, set := range map[string]string{
		"twice":                             "a a",
		"three times":                       "a a a",
		"beside others":                     "a b c b d",
		"one needs, the other one not":      "ab a b",
		"alike, both need":                  "ab ab b",
		"a Dep that isn't there":            "a a bz",
		"a Dep of theirs that isn't there":  "az az",
		"one of them has a Dep that is not": "a az",
		"it needs itself":                   "aa aa",
		"one of them needs itself":          "aa a",
		"another one needs itself":          "a a bb",
		"a ring":                            "ab ba c c",
		"a ring through them":               "ab ba a",
		"all faults":                        "ab ba cc dz e e",
		"two of them":                       "a b a b",
	} {
		checks(t, why, setOf(set), api.ErrTwice)
	}
	checks(t, "the empty name", []api.Named{named(""), named("")}, api.ErrTwice)
	other := []api.Named{{Name: "a", Patch: api.Patch{Note: "n"}}, {Name: "a", Patch: api.Patch{Note: "m"}}}
	checks(t, "unlike patches", other, api.ErrTwice)
}

// P6.1: ErrDep, of a Dep that no patch has.
func TestCheckMissingDep(t *testing.T) {
	for why, set := range map[string]string{
		"alone":                      "az",
		"the empty set's":            "ab",
		"the second of two":          "abz b",
		"the first of two":           "azb b",
		"the last patch":             "a ba cb dz",
		"the first patch":            "az b c d",
		"of one that others need":    "ba cb dc az",
		"of one that nobody needs":   "a b c dz",
		"two that aren't there":      "ayz",
		"told twice":                 "azz",
		"beside a ring":              "ab ba cz",
		"beside one of itself":       "aa bz",
		"a Dep beside it that is":    "azb b c",
		"only through another one's": "ab bz c",
	} {
		checks(t, why, setOf(set), api.ErrDep)
	}
	for _, near := range []string{"", "a", "abc", "ab ", " ab", "AB", "b", "ba", "ab\x00"} {
		checks(t, "a name near it", []api.Named{named("ab"), named("c", near)}, api.ErrDep)
	}
	checks(t, "its own note", []api.Named{{Name: "a", Patch: api.Patch{Note: "n", Deps: []string{"n"}}}}, api.ErrDep)
}

// P6.1: ErrDep, of what needs itself, straight and through others, beside patches that are in order.
func TestCheckRings(t *testing.T) {
	for why, set := range map[string]string{
		"itself":                         "aa",
		"itself, twice":                  "aaa",
		"itself, beside another Dep":     "aab b",
		"itself, behind others":          "a ba cb dcd",
		"itself, ahead of others":        "aa ba cb",
		"itself, in the middle":          "a bab cb",
		"two":                            "ab ba",
		"two, beside others":             "ab ba c dc",
		"two, others need it":            "ab ba ca dc",
		"two, it needs others":           "abc ba c",
		"two, others ahead and behind":   "a bca cb db",
		"three":                          "ab bc ca",
		"four, beside others":            "ab bc cd da e fe",
		"two rings":                      "ab ba cd dc",
		"two rings that meet":            "ab bac cb",
		"a ring in a ring":               "ab bac cad dc",
		"all of all":                     "abc bac cab",
		"a ring with a tail behind":      "ab ba cb dc ed",
		"a ring with a tail ahead":       "abe ba ed dc c",
		"only one patch is in order":     "a bc cd db",
		"five, told in the ring's order": "ab bc cd de ea",
		"five, told against it":          "ae ba cb dc ed",
		"one that needs all, and a ring": "eabcd a b cd dc",
	} {
		checks(t, why, setOf(set), api.ErrDep)
	}
	checks(t, "the empty name, itself", []api.Named{named("", "")}, api.ErrDep)
	checks(t, "a ring through the empty name", []api.Named{named("", "a"), named("a", "")}, api.ErrDep)
	for n := 1; n <= 40; n++ {
		checks(t, "a ring of many", ring(n), api.ErrDep)
		checks(t, "a ring of many, beside a chain", slices.Concat(ring(n), chain(10, "x")), api.ErrDep)
		checks(t, "a ring of many behind a chain", behind(chain(10, "x"), ring(n)), api.ErrDep)
		checks(t, "a ring of many ahead of a chain", behind(ring(n), chain(10, "x")), api.ErrDep)
	}
}

// name is the n-th of names that rise and begin so.
func name(begin string, n int) string {
	return fmt.Sprintf("%s%07d", begin, n)
}

// chain is one of n patches each of which needs the one with the name ahead of its own.
func chain(n int, begin string) []api.Named {
	var out []api.Named
	for i := range n {
		p := named(name(begin, i))
		if i > 0 {
			p.Patch.Deps = []string{name(begin, i-1)}
		}
		out = append(out, p)
	}
	return out
}

// ring is a chain the first of which needs the last.
func ring(n int) []api.Named {
	out := chain(n, "r")
	out[0].Patch.Deps = []string{name("r", n-1)}
	return out
}

// behind are both sets, the first patch of b needing the last of a.
func behind(a, b []api.Named) []api.Named {
	b = clone(b)
	b[0].Patch.Deps = append(b[0].Patch.Deps, a[len(a)-1].Name)
	return slices.Concat(a, b)
}

// P6.1: the Name is taken as it is told, whatever the patch says, and the patch needn't be right.
func TestNamesAsTold(t *testing.T) {
	wrong := api.Patch{Note: strings.Repeat("n", 101), Deps: []string{"second", "", "second"}, Ops: []api.Op{
		{Kind: 77}, {Kind: api.OpDelete, A: api.Ref{At: 99, N: -1}}, {Kind: api.OpNew, Lines: []string{"\n", ">>>>>>>"}},
	}}
	set := []api.Named{{Name: "first", Patch: wrong}, named("second"), named("")}
	checks(t, "patches that aren't right", set, api.OK, "", "second", "first")
	if l := order.Past(set, "first"); !slices.Equal(l, []string{"", "second"}) {
		t.Errorf("Past: %q", l)
	}
	if l := order.Heads(set); !slices.Equal(l, []string{"first"}) {
		t.Errorf("Heads: %q", l)
	}
	alike := []api.Named{named("x"), named("y"), named("Z")}
	checks(t, "one patch with three names", alike, api.OK, "Z", "x", "y")
	for _, n := range []string{"\x00", "\xff", "é", "e\u0301", "\n", " ", strings.Repeat("0", 64), strings.Repeat("long", 5000)} {
		set := []api.Named{named("m", n), named(n)}
		checks(t, "any name", set, api.OK, n, "m")
		checks(t, "any name, that needs", []api.Named{named("m"), named(n, "m")}, api.OK, "m", n)
		checks(t, "any name twice", []api.Named{named(n), named("m"), named(n)}, api.ErrTwice)
		checks(t, "any name needed", []api.Named{named("m", n)}, api.ErrDep)
		checks(t, "any name that needs itself", []api.Named{named("m"), named(n, n)}, api.ErrDep)
		if l := order.Past(set, "m"); !slices.Equal(l, []string{n}) {
			t.Errorf("Past: %q", l)
		}
		if l := order.Heads(set); !slices.Equal(l, []string{"m"}) {
			t.Errorf("Heads: %q", l)
		}
	}
	many := named("m")
	for i := range 200 {
		many.Patch.Deps = append(many.Patch.Deps, name("d", i%100))
	}
	set = []api.Named{many}
	want := []string{}
	for i := range 100 {
		set = append(set, named(name("d", i)))
		want = append(want, name("d", i))
	}
	checks(t, "more Deps than a right patch has", set, api.OK, append(want, "m")...)
}

// P6.1, P6.2: the least of those that may come, again and again.
func TestLinear(t *testing.T) {
	for _, c := range []struct{ why, set, want string }{
		{"none needs any", "d b c a e", "abcde"},
		{"a chain that rises", "a ba cb dc ed", "abcde"},
		{"a chain that falls", "e de cd bc ab", "edcba"},
		{"a chain to and fro", "c ac ea be db", "caebd"},
		{"two chains", "a ca ec b db fd", "abcdef"},
		{"two chains, the least name last", "c bc ab f ef de", "cbafed"},
		{"a chain of the greatest is told as soon as it may", "z az y by", "ybza"},
		{"the least of those that may, not of all", "ad b c d", "bcda"},
		{"what has come free stands ahead of what was", "b ab c d", "bacd"},
		{"what has come free waits for the lesser ones", "a da b c", "abcd"},
		{"one that several need", "m am bm zm", "mabz"},
		{"one that needs several", "amno m n o", "mnoa"},
		{"two that two need", "axy bxy y x", "xyab"},
		{"two that two need, one comes free ahead", "ax bxy y x", "xayb"},
		{"a square", "d bd cd abc", "dbca"},
		{"two squares", "d bd cd abc h fh gh efg", "dbcahfge"},
		{"a ladder", "f ef def cde bcd abc", "fedcba"},
		{"needs told beside needs of needs", "c bc abc", "cba"},
		{"a Dep twice", "c bcc abbcc", "cba"},
		{"a tree", "g eg fg ae be cf df", "geabfcd"},
		{"a tree to its root", "abc bde cfg d e f g", "debfgca"},
		{"levels play no part", "a da b cb ec", "abcde"},
		{"a long way to the least", "z yz xy ax b c", "bczyxa"},
	} {
		checks(t, c.why, setOf(c.set), api.OK, letters(c.want)...)
	}
}

// P6.1: names are held against each other byte by byte; one that is another one's beginning is less.
func TestLinearNames(t *testing.T) {
	rising := []string{"", "\x00", "\x00\x00", " ", "0", "1", "10", "2", "A", "Z", "a", "a\x00", "a ", "aa", "aaa", "aab", "ab", "b", "é", "\xff", "\xff\x00", "\xff\xff"}
	var free, needing []api.Named
	for i, n := range rising {
		free = append(free, named(n))
		needing = append(needing, named(n, rising[i+1:]...))
	}
	checks(t, "free", free, api.OK, rising...)
	back := slices.Clone(rising)
	slices.Reverse(back)
	checks(t, "each needs all greater ones", needing, api.OK, back...)
	checks(t, "a beginning needs the whole", []api.Named{named("a", "ab"), named("ab", "abc"), named("abc"), named("b")}, api.OK, "abc", "ab", "a", "b")
	checks(t, "the whole needs a beginning", []api.Named{named("a"), named("ab", "a"), named("abc", "ab"), named("aa")}, api.OK, "a", "aa", "ab", "abc")
	checks(t, "a beginning of the Dep is another one", []api.Named{named("a"), named("ab"), named("0", "ab")}, api.OK, "a", "ab", "0")
}

// P6.1: some names, all, none, names that the set hasn't got, names twice.
func TestMissing(t *testing.T) {
	for _, c := range []struct{ set, have, want string }{
		{"", "", ""},
		{"", "a", ""},
		{"a ba ca", "", "abc"},
		{"a ba ca", "a", "bc"},
		{"a ba ca", "b", "ac"},
		{"a ba ca", "c", "ab"},
		{"a ba ca", "ac", "b"},
		{"a ba ca", "ca", "b"},
		{"a ba ca", "abc", ""},
		{"a ba ca", "cba", ""},
		{"a ba ca", "z", "abc"},
		{"a ba ca", "zA0", "abc"},
		{"a ba ca", "zaya", "bc"},
		{"a ba ca", "aa", "bc"},
		{"a ba ca", "bbaabb", "c"},
		{"a ba ca", "ccbbaazz", ""},
		{"e de cd bc ab", "", "edcba"},
		{"e de cd bc ab", "a", "edcb"},
		{"e de cd bc ab", "bd", "eca"},
		{"e de cd bc ab", "eca", "db"},
		{"e de cd bc ab", "edcba", ""},
		{"c ac ea be db", "ae", "cbd"},
	} {
		set := setOf(c.set)
		for _, s := range turns(set) {
			l, e := order.Missing(s, letters(c.have))
			if e != nil || !slices.Equal(l, letters(c.want)) {
				t.Errorf("Missing(%s, %s) = %q, %v, want %s", plain(s), c.have, l, e, c.want)
			}
		}
		asTheWordsSay(t, set, letters(c.have)...)
	}
	set := []api.Named{named("a"), named("ab", "a"), named("", "ab")}
	for _, c := range []struct{ have, want []string }{
		{nil, []string{"a", "ab", ""}},
		{[]string{""}, []string{"a", "ab"}},
		{[]string{"abc", "b", "aa"}, []string{"a", "ab", ""}},
		{[]string{"ab"}, []string{"a", ""}},
		{[]string{"a"}, []string{"ab", ""}},
	} {
		if l, e := order.Missing(set, c.have); e != nil || !slices.Equal(l, c.want) {
			t.Errorf("Missing(%s, %q) = %q, %v, want %q", plain(set), c.have, l, e, c.want)
		}
	}
}

// P6.1, R2: Missing's error is Check's, whatever is had, that which is at fault too.
func TestMissingWrong(t *testing.T) {
	for _, c := range []struct {
		set  string
		want api.Errno
	}{{"a a", api.ErrTwice}, {"a a bz", api.ErrTwice}, {"az", api.ErrDep}, {"aa", api.ErrDep}, {"ab ba c", api.ErrDep}} {
		for _, have := range []string{"", "a", "z", "az", "b", "abc", "c", "aa"} {
			for _, s := range turns(setOf(c.set)) {
				if l, e := order.Missing(s, letters(have)); !only(e, c.want) || len(l) != 0 {
					t.Errorf("Missing(%s, %s) = %q, %v, want %v", plain(s), have, l, e, c.want)
				}
			}
		}
	}
}
