package terms_test

import (
	"errors"
	"fmt"
	"math"
	"reflect"
	"slices"
	"strconv"
	"strings"
	"testing"

	"tambour/api"
	"tambour/terms"
)

func number(e error) api.Errno {
	var n api.Errno
	errors.As(e, &n)
	return n
}

// only says whether e is the error n, and no other one.
func only(e error, n api.Errno) bool {
	return e != nil && errors.Is(e, n) && number(e) == n
}

// none says whether f is the zero form.
func none(f api.Form) bool {
	return !f.List && f.Text == "" && len(f.Items) == 0
}

// same holds forms against each other; no items may be nil or not.
func same(f, g api.Form) bool {
	return f.List == g.List && f.Text == g.Text && slices.EqualFunc(f.Items, g.Items, same)
}

// clone is f in memory of its own.
func clone(f api.Form) api.Form {
	return api.Form{List: f.List, Text: f.Text, Items: clones(f.Items)}
}

func clones(l []api.Form) []api.Form {
	var out []api.Form
	for _, f := range l {
		out = append(out, clone(f))
	}
	return out
}

// list is a list of l, without a call of what is tested.
func list(l ...api.Form) api.Form {
	return api.Form{List: true, Items: l}
}

func text(s string) api.Form {
	return api.Form{Text: s}
}

// deep is f in n lists.
func deep(n int, f api.Form) api.Form {
	for range n {
		f = list(f)
	}
	return f
}

// times is a list of n times f.
func times(n int, f api.Form) api.Form {
	return list(slices.Repeat([]api.Form{f}, n)...)
}

// brokenForms are none, by themselves.
func brokenForms() map[string]api.Form {
	return map[string]api.Form{
		"a text with an item":             {Items: []api.Form{text("")}},
		"a text of bytes with an item":    {Text: "x", Items: []api.Form{text("")}},
		"a text with a list in it":        {Items: []api.Form{list()}},
		"a text with two items":           {Text: "x", Items: []api.Form{text("a"), list(text("b"))}},
		"a text with what is no form":     {Items: []api.Form{{List: true, Text: "x"}}},
		"a number with an item":           {Text: "5", Items: []api.Form{text("5")}},
		"a list with a text":              {List: true, Text: "x"},
		"a list with a byte 0":            {List: true, Text: "\x00"},
		"a list with a number":            {List: true, Text: "5"},
		"a list with an item and a text":  {List: true, Text: "x", Items: []api.Form{text("a")}},
		"a list with a text of 65537":     {List: true, Text: strings.Repeat("x", 65537)},
		"a text of 65537 with an item":    {Text: strings.Repeat("x", 65537), Items: []api.Form{text("a")}},
		"a list with a text, and an item": {List: true, Text: "x", Items: []api.Form{{List: true, Text: "x"}}},
	}
}

// P4.1: Text, of any bytes.
func TestText(t *testing.T) {
	all := make([]byte, 256)
	for i := range all {
		all[i] = byte(i)
	}
	for _, s := range []string{"", "a", "ab", "()", "2:ab", "5", "-0", "\x00", "\n", " ", "\xff\xfe", "é", "\xe2\x80", string(all), strings.Repeat("x", 65536), strings.Repeat("x", 1<<20)} {
		if f := terms.Text(s); f.List || f.Text != s || len(f.Items) != 0 {
			t.Errorf("Text(%.40q) = %t, %.40q, %v", s, f.List, f.Text, f.Items)
		}
	}
}

// P4.1, R6: Num, of numbers of each length and of both ends, as a text in base 10.
func TestNum(t *testing.T) {
	check := func(n int, want string) {
		t.Helper()
		f := terms.Num(n)
		if f.List || f.Text != want || len(f.Items) != 0 {
			t.Errorf("Num(%d) = %v", n, f)
		}
		if got, e := terms.Number(f, math.MinInt, math.MaxInt); got != n || e != nil {
			t.Errorf("Number of Num(%d) = %d, %v", n, got, e)
		}
	}
	for n, want := range map[int]string{0: "0", 1: "1", -1: "-1", 9: "9", 10: "10", -10: "-10", 100: "100", 65536: "65536", math.MaxInt64: "9223372036854775807", math.MinInt64: "-9223372036854775808"} {
		check(n, want)
	}
	for n := -1200; n <= 1200; n++ {
		check(n, fmt.Sprint(n))
	}
	for n := 1; n < math.MaxInt/10; n *= 10 {
		for d := -1; d <= 1; d++ {
			check(n+d, fmt.Sprint(n+d))
			check(-n+d, fmt.Sprint(-n+d))
		}
	}
	for d := range 20 {
		check(math.MaxInt-d, fmt.Sprint(math.MaxInt-d))
		check(math.MinInt+d, fmt.Sprint(math.MinInt+d))
	}
}

// P4.1: List, of none, of one, of many, and of what is no form: the items are as they were handed in, in their order.
func TestList(t *testing.T) {
	for why, l := range map[string][]api.Form{
		"none":          nil,
		"an empty list": {},
		"the empty":     {text("")},
		"an empty one":  {list()},
		"some":          {text("a"), list(text("b"), list(), text("")), text("a")},
		"one twice":     {list(text("a")), list(text("a"))},
		"65537 of them": slices.Repeat([]api.Form{text("a")}, 65537),
		"many of many":  slices.Repeat([]api.Form{times(300, list())}, 300),
		"12 deep":       {text("a"), deep(12, text("b")), list()},
		"12 deep, wide": {deep(11, times(50, text("b"))), deep(6, times(70000, text("b")))},
		"no forms":      {{List: true, Text: "x"}, {Text: "y", Items: []api.Form{text("z")}}},
	} {
		want := clones(l)
		f := terms.List(l...)
		if !f.List || f.Text != "" || !slices.EqualFunc(f.Items, want, same) {
			t.Errorf("List of %s: %t, %q, %d items", why, f.List, f.Text, len(f.Items))
		}
		if !slices.EqualFunc(l, want, same) {
			t.Errorf("List of %s has changed them", why)
		}
	}
}

// P4.1: Number, of ranges that hold it, at both ends.
func TestNumber(t *testing.T) {
	for _, c := range []struct{ n, least, most int }{
		{0, 0, 0}, {0, -1, 1}, {0, math.MinInt, 0}, {0, 0, math.MaxInt},
		{5, 0, 9}, {5, 5, 9}, {5, 0, 5}, {5, 5, 5}, {10, 10, 10},
		{-5, -9, 9}, {-5, -5, 0}, {-5, -9, -5}, {-5, -5, -5},
		{math.MaxInt, 0, math.MaxInt}, {math.MaxInt, math.MaxInt, math.MaxInt}, {math.MaxInt - 1, 0, math.MaxInt - 1},
		{math.MinInt, math.MinInt, 0}, {math.MinInt, math.MinInt, math.MinInt}, {math.MinInt + 1, math.MinInt + 1, 0},
	} {
		if n, e := terms.Number(text(strconv.Itoa(c.n)), c.least, c.most); n != c.n || e != nil {
			t.Errorf("Number of %d, %d to %d: %d, %v", c.n, c.least, c.most, n, e)
		}
		if n, e := terms.Number(api.Form{Text: strconv.Itoa(c.n), Items: []api.Form{}}, c.least, c.most); n != c.n || e != nil {
			t.Errorf("Number of %d with an empty list of items: %d, %v", c.n, n, e)
		}
	}
}

// P4.1, R2: ErrForm, and 0 beside it, of numbers that the range doesn't hold, and of ranges that are empty.
func TestNotInRange(t *testing.T) {
	for _, c := range []struct{ n, least, most int }{
		{0, 1, 9}, {0, -9, -1}, {10, 0, 9}, {4, 5, 9}, {6, 0, 5}, {-1, 0, 9}, {-6, -5, 5}, {1, -9, 0}, {5, -5, -5}, {-5, 5, 5},
		{5, 6, 4}, {5, 5, 4}, {5, 6, 5}, {5, 9, 0}, {0, 1, 0}, {0, 0, -1}, {0, 1, -1}, {5, math.MaxInt, math.MinInt}, {0, math.MaxInt, math.MinInt},
		{math.MaxInt, math.MaxInt, 0}, {math.MinInt, 0, math.MinInt},
		{math.MaxInt, math.MinInt, math.MaxInt - 1}, {math.MinInt, math.MinInt + 1, math.MaxInt},
		{math.MaxInt, math.MinInt, -1}, {math.MinInt, 1, math.MaxInt},
	} {
		if n, e := terms.Number(text(strconv.Itoa(c.n)), c.least, c.most); n != 0 || !only(e, api.ErrForm) {
			t.Errorf("Number of %d, %d to %d: %d, %v", c.n, c.least, c.most, n, e)
		}
	}
}

// P4.1, R2: ErrForm, and 0 beside it, of what is no number's Num, in whatever range.
func TestNoNumber(t *testing.T) {
	all := map[string]api.Form{
		"an empty list":              list(),
		"a list with a number":       {List: true, Text: "5"},
		"a list of a number":         list(text("5")),
		"a number in two lists":      deep(2, text("5")),
		"a number with an item":      {Text: "5", Items: []api.Form{text("5")}},
		"a number with a list in it": {Text: "5", Items: []api.Form{list()}},
		"a 0 with an item":           {Text: "0", Items: []api.Form{text("")}},
	}
	for _, s := range []string{
		"", "-", "+", "--5", "-0", "+0", "+5", "-+5", "00", "05", "-05", "000000000000000000005", "0x5", "0b1", "0o7", "1_0", "_1",
		" 5", "5 ", " ", "5\n", "\n5", "5\x00", "\x005", "5.0", "5e0", "1e3", "5-", "5 6", "5,000", "a", "5a", "a5", "1:5", "(5)",
		"٥", "５", "−5", "\xff", "NaN", "Inf",
		"9223372036854775808", "-9223372036854775809", "9223372036854775810", "10000000000000000000", "18446744073709551615", "18446744073709551616", "18446744073709551621",
		"99999999999999999999", "-99999999999999999999", "340282366920938463463374607431768211461", strings.Repeat("9", 1000), strings.Repeat("0", 1<<20) + "5", "4294967296" + "4294967296",
	} {
		all[strconv.Quote(s[:min(len(s), 50)])] = text(s)
	}
	for why, f := range all {
		for _, ends := range [][2]int{{math.MinInt, math.MaxInt}, {-9, 9}, {0, 0}, {5, 5}, {9, -9}} {
			if n, e := terms.Number(f, ends[0], ends[1]); n != 0 || !only(e, api.ErrForm) {
				t.Errorf("Number of %s, %d to %d: %d, %v", why, ends[0], ends[1], n, e)
			}
		}
	}
}

// P4.1: Number, of each small text of digits and signs: what the words say of it.
func TestSmallNumbers(t *testing.T) {
	nums := map[string]int{}
	for n := -999; n <= 9999; n++ {
		nums[fmt.Sprint(n)] = n
	}
	texts("0159-+ ", 4, func(s string) {
		want, right := nums[s]
		n, e := terms.Number(text(s), -50, 150)
		if right = right && -50 <= want && want <= 150; right && (n != want || e != nil) || !right && (n != 0 || !only(e, api.ErrForm)) {
			t.Errorf("Number of %q: %d, %v", s, n, e)
		}
	})
}

// texts calls f with each text of at most n bytes out of those of bytes.
func texts(bytes string, n int, f func(string)) {
	f("")
	if n == 0 {
		return
	}
	for i := range len(bytes) {
		texts(bytes, n-1, func(s string) { f(s + bytes[i:i+1]) })
	}
}

// room is a list with room behind it, and lists with room in it.
func room() []api.Form {
	inner := []api.Form{text("b"), list(text("c")), text("behind")}
	return []api.Form{text("a"), list(inner[:2]...), list(inner[:2]...), text("d"), text("behind"), list(text("behind"))}
}

// R4: what is handed in is as it was behind each call, the room behind it too.
func TestArgumentsUnchanged(t *testing.T) {
	l, want := room(), room()
	f := list(l[:4]...)
	bad := api.Form{List: true, Text: "x", Items: l[:4]}
	f.Items = l[:4]
	for range 2 {
		spoil(terms.List(l[:4]...).Items)
		spoil(terms.List(f, bad).Items)
		terms.Write(f)
		terms.Write(bad)
		terms.Write(list(f, deep(9, f)))
		terms.Number(f, 0, 9)
		terms.Number(bad, 0, 9)
		terms.Number(api.Form{Text: "5", Items: l[:4]}, 0, 9)
	}
	if !slices.EqualFunc(l, want, same) || len(f.Items) != 4 {
		t.Errorf("%v", l)
	}
	if inner := l[1].Items[:3]; inner[2].Text != "behind" {
		t.Errorf("%v", inner)
	}
}

// R4: what is handed in isn't kept, and no two lists of an answer hang together.
func TestNotKept(t *testing.T) {
	l, want := room()[:4], list(clones(room()[:4])...)
	f := terms.List(l...)
	spoil(l)
	if !same(f, want) {
		t.Errorf("List: %v", f)
	}
	apart(t, f)
	once := list(text("a"), list(text("b")))
	f = terms.List(once, once, list(once, once))
	if !same(f, list(once, once, list(once, once))) {
		t.Errorf("List of one list, three times: %v", f)
	}
	apart(t, f)
	most := deep(5, times(2000, list(text(""), list())))
	f, want = terms.List(most, most), clone(list(most, most))
	spoil(most.Items)
	if !same(f, want) {
		t.Error("List of many lists hangs on them")
	}
	apart(t, f)
	f, e := terms.Read("(1:a(1:b(1:c))(1:b(1:c))()(0:0:0:)1:d)")
	if e != nil {
		t.Fatal(e)
	}
	apart(t, f)
}

// apart tells if a list in f, or the room behind one, is to be seen in another.
func apart(t *testing.T, f api.Form) {
	t.Helper()
	seen := map[*api.Form]bool{}
	var walk func(api.Form)
	walk = func(f api.Form) {
		all := f.Items[:cap(f.Items)]
		for i := range all {
			if seen[&all[i]] {
				t.Fatal("two lists of an answer share their items")
			}
			seen[&all[i]] = true
		}
		for _, item := range f.Items {
			walk(item)
		}
	}
	walk(f)
}

// spoil writes over all of a list and of those in it, and over the room behind them.
func spoil(l []api.Form) {
	l = l[:cap(l)]
	for i := range l {
		spoil(l[i].Items)
		l[i] = api.Form{List: true, Text: "spoilt"}
	}
}

// R7: answers don't hang on the calls ahead.
func TestOneAnswer(t *testing.T) {
	f := list(text("ab"), list(), text("-5"))
	for range 3 {
		s, e := terms.Write(f)
		if s != "(2:ab()2:-5)" || e != nil {
			t.Errorf("Write: %q, %v", s, e)
		}
		g, e := terms.Read(s)
		if !reflect.DeepEqual(g, terms.List(terms.Text("ab"), terms.List(), terms.Num(-5))) || e != nil {
			t.Errorf("Read: %v, %v", g, e)
		}
		terms.Read("(1:x(")
		terms.Write(list(f, api.Form{List: true, Text: "x"}))
	}
}
