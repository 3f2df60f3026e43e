package order_test

import (
	"slices"
	"testing"

	"tambour/api"
	"tambour/order"
)

// P6.1: the past of a name, through however many others, in sets that are closed and in such as aren't.
func TestPast(t *testing.T) {
	for _, c := range []struct{ why, set, name, want string }{
		{"no patches", "", "a", ""},
		{"no Deps", "a", "a", ""},
		{"no Deps, others need it", "a ba ca", "a", ""},
		{"a Dep", "a ba", "b", "a"},
		{"a name that isn't in the set", "a ba", "z", ""},
		{"a name that isn't in the set, but a Dep", "az ba", "z", ""},
		{"through another one", "a ba cb", "c", "ab"},
		{"through many others", "a ba cb dc ed fe", "f", "abcde"},
		{"the middle of a chain", "a ba cb dc ed fe", "c", "ab"},
		{"rising, where the chain falls", "e de cd bc ab", "a", "bcde"},
		{"a square, each once", "d bd cd abc", "a", "bcd"},
		{"only its own", "a ba x yx zy", "z", "xy"},
		{"Deps that fall", "acb b c", "a", "bc"},
		{"a Dep twice", "abb b", "a", "b"},
		{"needs of needs told beside", "abc bc c", "a", "bc"},
		{"a Dep that is no name", "az", "a", ""},
		{"a Dep that is no name, beside one that is", "azb b", "a", "b"},
		{"a Dep that is no name, through another one", "ab bzc c", "a", "bc"},
		{"itself", "aa", "a", "a"},
		{"itself, and a Dep that is no name", "aaz", "a", "a"},
		{"itself, and another one", "aab b", "a", "ab"},
		{"of one that needs one that needs itself", "ab bb", "a", "b"},
		{"a ring of two, the one", "ab ba", "a", "ab"},
		{"a ring of two, the other", "ab ba", "b", "ab"},
		{"a ring of three", "ab bc ca", "b", "abc"},
		{"behind a ring", "ab ba cb", "c", "ab"},
		{"ahead of a ring", "abc ba c", "c", ""},
		{"in a ring, with others", "abc ba cd d ea", "a", "abcd"},
		{"two rings, from the second", "ab ba cda dc", "d", "abcd"},
		{"two rings, from the first", "ab ba cda dc", "a", "ab"},
		{"two patches of one name", "ab ac b c", "a", "bc"},
		{"two patches of one name, the one with no Deps", "ab a b", "a", "b"},
		{"two patches of one name, through it", "da ab ac b c", "d", "abc"},
		{"three patches of one name", "ab ac ad b c d", "a", "bcd"},
		{"two patches of one name, alike", "ab ab b", "a", "b"},
		{"two patches of one name, the one needs it", "ab aa b", "a", "ab"},
		{"two patches of one name, a ring through both", "ab ac b ca", "c", "abc"},
		{"two patches of one name, a Dep that is no name", "ab az b", "a", "b"},
		{"two patches of a needed name", "ab bc bd c d", "a", "bcd"},
	} {
		set := setOf(c.set)
		asTheWordsSay(t, set)
		for _, s := range turns(set) {
			if l := order.Past(s, c.name); !slices.Equal(l, letters(c.want)) {
				t.Errorf("%s: Past(%s, %s) = %q, want %s", c.why, plain(s), c.name, l, c.want)
			}
		}
	}
	set := []api.Named{named("", "ab"), named("ab", "a"), named("a"), named("abc", "", "b")}
	for name, want := range map[string][]string{"": {"a", "ab"}, "a": nil, "ab": {"a"}, "abc": {"", "a", "ab"}, "b": nil, "abcd": nil, "\x00": nil} {
		if l := order.Past(set, name); !slices.Equal(l, want) {
			t.Errorf("Past(%s, %q) = %q, want %q", plain(set), name, l, want)
		}
	}
	for _, set := range [][]api.Named{nil, {}, setOf("a")} {
		if l := order.Past(set, ""); len(l) != 0 {
			t.Errorf("Past(%s, nothing) = %q", plain(set), l)
		}
	}
}

// P6.1: the names that nobody needs, in sets that are closed and in such as aren't.
func TestHeads(t *testing.T) {
	for _, c := range []struct{ why, set, want string }{
		{"no patches", "", ""},
		{"one", "a", "a"},
		{"none needs any", "c a b", "abc"},
		{"a chain", "a ba cb", "c"},
		{"a chain that falls", "c bc ab", "a"},
		{"a fork", "a ba ca", "bc"},
		{"several, rising", "m zm bm ym am", "abyz"},
		{"a square", "d bd cd abc", "a"},
		{"two chains", "a ba c dc", "bd"},
		{"one beside a chain", "a ba c", "bc"},
		{"a Dep that is needed twice", "a ba ca dbc", "d"},
		{"a Dep told twice", "a baa", "b"},
		{"a name told twice", "a a", "a"},
		{"a name told three times, beside others", "b a b c b", "abc"},
		{"a name told twice, that is needed", "a a ba", "b"},
		{"a name told twice, one of them needs", "a b ba c", "bc"},
		{"a name told twice, each needs another one", "ab ac b c d", "ad"},
		{"a Dep that is no name", "az", "a"},
		{"a Dep that is no name, beside others", "azb b c", "ac"},
		{"itself", "aa", ""},
		{"itself, beside another one", "aa b", "b"},
		{"one of a name needs itself", "a aa", ""},
		{"it needs itself, and another one needs it", "aa ba", "b"},
		{"a ring", "ab ba", ""},
		{"a ring of three", "ab bc ca", ""},
		{"a ring, and one behind it", "ab ba ca", "c"},
		{"a ring, and one ahead of it", "abc ba c", ""},
		{"a ring, and one beside it", "ab ba c", "c"},
	} {
		set := setOf(c.set)
		asTheWordsSay(t, set)
		for _, s := range turns(set) {
			if l := order.Heads(s); !slices.Equal(l, letters(c.want)) {
				t.Errorf("%s: Heads(%s) = %q, want %s", c.why, plain(s), l, c.want)
			}
		}
	}
	set := []api.Named{named("ab", "a"), named("abc", "", "b"), named("a"), named("")}
	if l := order.Heads(set); !slices.Equal(l, []string{"ab", "abc"}) {
		t.Errorf("Heads(%s) = %q", plain(set), l)
	}
	if l := order.Heads([]api.Named{named("a", "b"), named(""), named("\xff")}); !slices.Equal(l, []string{"", "a", "\xff"}) {
		t.Errorf("Heads: %q", l)
	}
}
