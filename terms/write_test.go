package terms_test

import (
	"fmt"
	"strings"
	"testing"

	"tambour/api"
	"tambour/terms"
)

// plain says f's bytes in the chapter's words.
func plain(f api.Form) string {
	if !f.List {
		return fmt.Sprintf("%d:%s", len(f.Text), f.Text)
	}
	var out strings.Builder
	for _, item := range f.Items {
		out.WriteString(plain(item))
	}
	return "(" + out.String() + ")"
}

// depth says how deep f is.
func depth(f api.Form) int {
	if !f.List {
		return 0
	}
	most := 0
	for _, item := range f.Items {
		most = max(most, depth(item))
	}
	return most + 1
}

// isForm says whether f is one, to its last item.
func isForm(f api.Form) bool {
	if f.List && f.Text != "" || !f.List && len(f.Items) > 0 {
		return false
	}
	for _, item := range f.Items {
		if !isForm(item) {
			return false
		}
	}
	return true
}

// P4.1: Write, of ordinary forms.
func TestWrite(t *testing.T) {
	for _, c := range []struct {
		f    api.Form
		want string
	}{
		{api.Form{}, "0:"},
		{text(""), "0:"},
		{api.Form{Items: []api.Form{}}, "0:"},
		{text("a"), "1:a"},
		{text("(1:a)"), "5:(1:a)"},
		{text("123456789"), "9:123456789"},
		{text("1234567890"), "10:1234567890"},
		{text("\x00\xff\n"), "3:\x00\xff\n"},
		{text("é"), "2:é"},
		{list(), "()"},
		{api.Form{List: true, Items: []api.Form{}}, "()"},
		{list(text("")), "(0:)"},
		{list(list()), "(())"},
		{list(text("ab"), list(), text("-5")), "(2:ab()2:-5)"},
		{list(list(), list()), "(()())"},
		{list(text("a"), text("b"), text("a")), "(1:a1:b1:a)"},
		{list(list(text("a")), text("b"), list(list(text("c")), text("d"))), "((1:a)1:b((1:c)1:d))"},
	} {
		if s, e := terms.Write(c.f); s != c.want || e != nil {
			t.Errorf("Write(%v) = %q, %v, want %q", c.f, s, e, c.want)
		}
	}
	for n := range 65530 {
		if n > 2000 && n%977 != 0 && n != 9999 && n != 10000 {
			continue
		}
		x := strings.Repeat("x", n)
		if s, e := terms.Write(text(x)); s != fmt.Sprintf("%d:%s", n, x) || e != nil {
			t.Errorf("Write of %d bytes: %.20q, %v", n, s, e)
		}
	}
}

// P4.1, P4.2: Write, of each small form and of each that is none, of whatever fields.
func TestSmallForms(t *testing.T) {
	items := [][]api.Form{nil}
	for range 3 {
		var forms []api.Form
		for _, l := range items {
			forms = append(forms, api.Form{Items: l}, api.Form{Text: "a", Items: l}, api.Form{List: true, Items: l}, api.Form{List: true, Text: "a", Items: l})
		}
		items = items[:1]
		for _, f := range forms {
			s, e := terms.Write(f)
			if !isForm(f) {
				if s != "" || !only(e, api.ErrArg) {
					t.Errorf("Write(%v) = %q, %v", f, s, e)
				}
			} else if s != plain(f) || e != nil {
				t.Errorf("Write(%v) = %q, %v", f, s, e)
			} else if g, e := terms.Read(s); !same(f, g) || e != nil {
				t.Errorf("Read(%q) = %v, %v", s, g, e)
			}
			items = append(items, []api.Form{f})
			for _, g := range forms[:min(len(forms), 84)] {
				items = append(items, []api.Form{f, g})
			}
		}
	}
}

// around are lists of depth n at the least, with f n - 1 deep or so, first, last and between.
func around(n int, f api.Form) []api.Form {
	g := f
	for range n - 1 {
		g = list(text("a"), list(), g, list(list()))
	}
	return []api.Form{deep(n, f), list(deep(n-1, f), text("b")), list(text("a"), deep(n-1, f)), list(list(), text("a"), deep(n-1, f), list()), list(g)}
}

// P4.1, R2: ErrBig of depths above 8, wherever the deepest item is; up to 8 its bytes.
func TestDepth(t *testing.T) {
	for _, n := range []int{1, 2, 7, 8, 9, 10, 11, 100} {
		for i, f := range append(around(n, text("x")), around(max(n-1, 1), list())...) {
			s, e := terms.Write(f)
			if depth(f) > api.MaxDeep {
				if s != "" || !only(e, api.ErrBig) {
					t.Errorf("depth %d, form %d: %.40q, %v", depth(f), i, s, e)
				}
			} else if s != plain(f) || e != nil {
				t.Errorf("depth %d, form %d: %.40q, %v", depth(f), i, s, e)
			}
		}
	}
	for n, want := range map[int]bool{7: true, 8: false} {
		if _, e := terms.Write(deep(n, list())); (e == nil) != want {
			t.Errorf("an empty list in %d lists: %v", n, e)
		}
	}
	for n, want := range map[int]bool{8: true, 9: false} {
		if _, e := terms.Write(deep(n, text(""))); (e == nil) != want {
			t.Errorf("a text in %d lists: %v", n, e)
		}
	}
}

// ofSize are forms of just n bytes, for n near MaxForm.
func ofSize(n int) map[string]api.Form {
	x := strings.Repeat("x", n)
	return map[string]api.Form{
		"a text":                    text(x[:n-6]),
		"a list of a text":          list(text(x[:n-8])),
		"a text in eight lists":     deep(8, text(x[:n-22])),
		"a text, and an empty list": list(text(x[:n-10]), list()),
		"an empty list, and a text": list(list(), text(x[:n-10])),
		"a text, and the empty one": list(text(x[:n-10]), text("")),
		"a text, and one of a byte": list(text(x[:n-11]), text("y")),
		"two texts":                 list(text(x[:9999]), text(x[:n-9999-5-6-2])),
		"two texts, in two lists":   list(list(text(x[:9999])), list(text(x[:n-9999-5-6-6]))),
		"texts of a byte, and one":  list(append(times(20000, text("y")).Items, text(x[:n-60000-5-2]))...),
		"one, and texts of a byte":  list(append([]api.Form{text(x[:n-60000-5-2])}, times(20000, text("y")).Items...)...),
	}
}

// P4.1, R2: at just MaxForm bytes they are answered, and read again; at one more ErrBig, and nothing beside it.
func TestSize(t *testing.T) {
	for _, n := range []int{65535, 65536, 65537, 65538} {
		for why, f := range ofSize(n) {
			if size := len(plain(f)); size != n {
				t.Fatalf("%s: %d bytes, not %d", why, size, n)
			}
			s, e := terms.Write(f)
			if n > api.MaxForm {
				if s != "" || !only(e, api.ErrBig) {
					t.Errorf("%s, %d bytes: %d bytes, %v", why, n, len(s), e)
				}
			} else if s != plain(f) || e != nil {
				t.Errorf("%s, %d bytes: %d bytes, %v", why, n, len(s), e)
			} else if g, e := terms.Read(s); !same(f, g) || e != nil {
				t.Errorf("%s, %d bytes, isn't read again: %v", why, n, e)
			}
		}
	}
	for n, want := range map[int]bool{32766: true, 32767: true, 32768: false, 1 << 20: false} {
		if s, e := terms.Write(times(n, list())); (e == nil) != want || want && len(s) != 2*n+2 || !want && (s != "" || !only(e, api.ErrBig)) {
			t.Errorf("%d empty lists: %d bytes, %v", n, len(s), e)
		}
		if s, e := terms.Write(times(n, text(""))); (e == nil) != want || want && len(s) != 2*n+2 || !want && (s != "" || !only(e, api.ErrBig)) {
			t.Errorf("%d empty texts: %d bytes, %v", n, len(s), e)
		}
	}
	for _, n := range []int{65531, 65535, 65536, 65537, 99999, 100000, 1 << 24} {
		if s, e := terms.Write(text(strings.Repeat("x", n))); s != "" || !only(e, api.ErrBig) {
			t.Errorf("a text of %d bytes: %d bytes, %v", n, len(s), e)
		}
	}
}

// P4.1, R1, R2: ErrArg, and nothing beside it, of what is no form: at the outside, deep inside, and beside a depth or a length that's too great, ahead of it, behind it and in it.
func TestNoForm(t *testing.T) {
	tooLong, tooDeep := text(strings.Repeat("x", 65536)), deep(9, list())
	for why, bad := range brokenForms() {
		all := []api.Form{bad, list(bad, tooLong), list(tooLong, bad), list(bad, tooDeep), list(tooDeep, bad), list(tooDeep, tooLong, list(bad), tooLong, tooDeep)}
		for _, n := range []int{1, 2, 7, 8, 9, 10, 100} {
			all = append(all, around(n, bad)...)
			all = append(all, around(n, list(tooLong, bad))...)
			all = append(all, list(tooLong, around(n, bad)[3]), list(around(n, bad)[4], tooDeep))
		}
		many := times(70000, list())
		all = append(all, list(many, bad), list(append(many.Items, bad)...), list(append([]api.Form{bad}, many.Items...)...))
		all = append(all, api.Form{Text: "x", Items: []api.Form{tooLong}}, api.Form{List: true, Text: "x", Items: []api.Form{tooDeep}})
		for i, f := range all {
			if s, e := terms.Write(f); s != "" || !only(e, api.ErrArg) {
				t.Errorf("%s, form %d: %.40q, %v", why, i, s, e)
			}
		}
	}
}

// twice is f in n lists, each of which has the one in it twice: 2^n of f, on n lists.
func twice(n int, f api.Form) api.Form {
	for range n {
		f = list(f, f)
	}
	return f
}

// circle is a list that stands in itself, with f beside it.
func circle(f api.Form) api.Form {
	l := make([]api.Form, 3)
	l[0], l[1], l[2] = list(l...), f, list(l[1:]...)
	return list(l...)
}

// parts are lists that lie in one another's memory, each longer than those in it; f is the last item of the longest.
func parts(f api.Form) api.Form {
	l := append(times(1000, list()).Items, f)
	for i := range 1000 {
		l[i].Items = l[:i]
	}
	return list(list(l[:500]...), list(l...))
}

// P0: what is very deep, or has one list so often that none could go through it each time, or stands in itself: each call ends, and Write still tells what is no form ahead of what is too much.
func TestWithoutEnd(t *testing.T) {
	bad := api.Form{List: true, Text: "x"}
	for why, made := range map[string]func(api.Form) api.Form{
		"deep":                 func(f api.Form) api.Form { return deep(1<<16, f) },
		"twice":                func(f api.Form) api.Form { return twice(100, f) },
		"a thousand times":     func(f api.Form) api.Form { return times(1000, times(1000, times(1000, times(1000, times(1000, f))))) },
		"a circle":             circle,
		"a circle of circles":  func(f api.Form) api.Form { return circle(circle(circle(f))) },
		"beside a circle":      func(f api.Form) api.Form { return list(circle(text("")), f) },
		"ahead of a circle":    func(f api.Form) api.Form { return list(f, circle(text(""))) },
		"twice around circles": func(f api.Form) api.Form { return twice(100, circle(f)) },
		"parts of one list":    parts,
	} {
		for _, item := range []api.Form{text("x"), list(), bad} {
			f, want := made(item), api.ErrBig
			if item.Text == "x" && item.List {
				want = api.ErrArg
			}
			if s, e := terms.Write(f); s != "" || !only(e, want) {
				t.Errorf("Write of %s: %.40q, %v", why, s, e)
			}
			if g := terms.List(f, f); !g.List || len(g.Items) != 2 || !g.Items[0].List || len(g.Items[1].Items) != len(f.Items) {
				t.Errorf("List of %s", why)
			} else if s, e := terms.Write(g); s != "" || !only(e, want) {
				t.Errorf("Write of a List of %s: %.40q, %v", why, s, e)
			}
			if n, e := terms.Number(f, 0, 9); n != 0 || !only(e, api.ErrForm) {
				t.Errorf("Number of %s: %d, %v", why, n, e)
			}
		}
	}
}

// P0: Lists of Lists, one by one, each of which takes no longer than those ahead.
func TestListsOfLists(t *testing.T) {
	one, two := terms.Text(""), terms.Text("")
	for range 200000 {
		one = terms.List(one)
	}
	for range 1000 {
		two = terms.List(two, two)
	}
	for _, f := range []api.Form{one, two} {
		if s, e := terms.Write(f); s != "" || !only(e, api.ErrBig) {
			t.Errorf("Lists of Lists: %.40q, %v", s, e)
		}
	}
}

// P0: what is so deep that no calls go there.
func TestVeryDeep(t *testing.T) {
	if testing.Short() {
		t.Skip("half a gibibyte")
	}
	for want, item := range map[api.Errno]api.Form{api.ErrBig: text("x"), api.ErrArg: {List: true, Text: "x"}} {
		if s, e := terms.Write(deep(1<<23, item)); s != "" || !only(e, want) {
			t.Errorf("Write: %.40q, %v", s, e)
		}
	}
}
