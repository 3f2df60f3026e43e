package patch_test

import (
	"fmt"
	"slices"
	"strconv"
	"strings"
	"testing"

	"tambour/api"
	"tambour/patch"
	"tambour/terms"
)

// loose takes whatever f has in it as a patch, and panics where there is too little.
func loose(f api.Form) api.Patch {
	num := func(f api.Form) int {
		n, _ := strconv.Atoi(f.Text)
		return n
	}
	ref := func(f api.Form) api.Ref { return api.Ref{At: num(f.Items[0]), N: num(f.Items[1])} }
	texts := func(f api.Form) []string {
		var out []string
		for _, item := range f.Items {
			out = append(out, item.Text)
		}
		return out
	}
	p := api.Patch{Note: f.Items[1].Text, Deps: texts(f.Items[2])}
	for _, o := range f.Items[3].Items {
		p.Ops = append(p.Ops, api.Op{Kind: num(o.Items[0]), A: ref(o.Items[1]), B: ref(o.Items[2]), Lines: texts(o.Items[3])})
	}
	return p
}

// patchOf says the chapter's words: the right patch of which s is the bytes, if there is one.
func patchOf(s string) (p api.Patch, ok bool) {
	defer func() {
		if recover() != nil {
			p, ok = api.Patch{}, false
		}
	}()
	f, e := terms.Read(s)
	if e != nil {
		return api.Patch{}, false
	}
	p = loose(f)
	return p, plain(p) == s && isRight(p)
}

// readsAsTheWordsSay holds Read of s against them; what Read takes Write gives.
func readsAsTheWordsSay(t *testing.T, s string) {
	t.Helper()
	want, ok := patchOf(s)
	p, e := patch.Read(s)
	if !ok {
		if !none(p) || !isFault(e) {
			t.Errorf("Read(%.300q) = %v, %v", s, p, e)
		}
		return
	}
	if !same(p, want) || e != nil {
		t.Errorf("Read(%.300q) = %v, %v", s, p, e)
	}
	if got, e := patch.Write(p); got != s || e != nil {
		t.Errorf("Write of Read(%.300q) = %.300q, %v", s, got, e)
	}
}

// ordinary are right patches, small and with all there may be in one.
func ordinary() []api.Patch {
	return []api.Patch{
		{},
		{Note: "note"},
		with(2),
		with(0, put("")),
		with(0, put("a", "bc", "")),
		with(1, del(line(0, 0))),
		with(1, revive(line(0, 299))),
		with(1, join(line(0, 12), bottom)),
		with(1, cut(top, line(0, 12))),
		room(true),
		{Note: "\x00\n\xff)(", Ops: []api.Op{put("1:a", "()", ")")}},
	}
}

// P5.2: Read of Write is the patch.
func TestReadOfWrite(t *testing.T) {
	for _, p := range append(ordinary(), ofSize(65536), with(64, times(400, del(line(63, 299)))...)) {
		s, e := patch.Write(p)
		if s != plain(p) || e != nil {
			t.Errorf("Write(%v): %.300q, %v", p, s, e)
		}
		if q, e := patch.Read(s); !same(p, q) || e != nil {
			t.Errorf("Read(%.300q): %v, %v", s, q, e)
		}
	}
}

// P5.1, R2: bytes that are a form and no patch, and bytes that are no form.
func TestNotRead(t *testing.T) {
	a := "(1:1(2:-11:0)(2:-11:1)(1:a))"
	for why, s := range map[string]string{
		"nothing":                      "",
		"no form":                      "x",
		"a text":                       "7:tambour",
		"an empty list":                "()",
		"the text tambour alone":       "(7:tambour)",
		"no ops":                       "(7:tambour0:())",
		"no ops, no Deps":              "(7:tambour0:)",
		"no Note":                      "(7:tambour()())",
		"no text tambour":              "(0:()())",
		"five parts":                   "(7:tambour0:()()())",
		"five parts, an empty text":    "(7:tambour0:()()0:)",
		"another text":                 "(7:tambouR0:()())",
		"a shorter text":               "(6:tambou0:()())",
		"a longer text":                "(8:tambours0:()())",
		"an empty text":                "(0:0:()())",
		"a list for the text":          "(()0:()())",
		"a list of the text":           "((7:tambour)0:()())",
		"a list for the Note":          "(7:tambour()()())",
		"a list of the Note":           "(7:tambour(1:n)()())",
		"a text for the Deps":          "(7:tambour0:0:())",
		"a text for the ops":           "(7:tambour0:()0:)",
		"a name for the Deps":          "(7:tambour0:64:" + dep(1) + "())",
		"a Dep that's a list":          "(7:tambour0:(())())",
		"a Dep that's a list of one":   "(7:tambour0:((64:" + dep(1) + "))())",
		"a Dep that's no name":         "(7:tambour0:(1:x)())",
		"a Dep that's empty":           "(7:tambour0:(0:)())",
		"a Dep in capital letters":     "(7:tambour0:(64:" + strings.Repeat("A", 64) + ")())",
		"Deps that fall":               "(7:tambour0:(64:" + dep(2) + "64:" + dep(1) + ")())",
		"a Dep twice":                  "(7:tambour0:(64:" + dep(1) + "64:" + dep(1) + ")())",
		"an op that's a text":          "(7:tambour0:()(0:))",
		"an op that's an empty list":   "(7:tambour0:()(()))",
		"an op without a list":         "(7:tambour0:()" + a + ")",
		"an op in two lists":           "(7:tambour0:()((" + a + ")))",
		"an op of kind 0":              "(7:tambour0:()((1:0(1:01:0)(1:01:0)())))",
		"an op of kind 6":              "(7:tambour0:()((1:6(1:01:0)(1:01:0)())))",
		"an op of kind -1":             "(7:tambour0:()((2:-1(1:01:0)(1:01:0)())))",
		"a New of no lines":            "(7:tambour0:()((1:1(2:-11:0)(2:-11:1)())))",
		"a marker":                     "(7:tambour0:()((1:1(2:-11:0)(2:-11:1)(7:=======))))",
		"a byte 10":                    "(7:tambour0:()((1:1(2:-11:0)(2:-11:1)(3:a\nb))))",
		"its own line":                 "(7:tambour0:()((1:1(2:-21:0)(2:-11:1)(1:a))))",
		"a line of no Dep":             "(7:tambour0:()((1:4(1:01:0)(1:01:0)())))",
		"a Note of 101 bytes":          "(7:tambour101:" + strings.Repeat("n", 101) + "()())",
		"lines of a Delete":            "(7:tambour0:(64:" + dep(1) + ")((1:4(1:01:0)(1:01:0)(0:))))",
		"a B of a Delete":              "(7:tambour0:(64:" + dep(1) + ")((1:4(1:01:0)(1:01:1)())))",
		"no B of a Delete":             "(7:tambour0:(64:" + dep(1) + ")((1:4(1:01:0)())))",
		"an empty B of a Delete":       "(7:tambour0:(64:" + dep(1) + ")((1:4(1:01:0)()())))",
		"no lines of a Delete":         "(7:tambour0:(64:" + dep(1) + ")((1:4(1:01:0)(1:01:0))))",
		"a text for a Delete's lines":  "(7:tambour0:(64:" + dep(1) + ")((1:4(1:01:0)(1:01:0)0:)))",
		"a text for a ref":             "(7:tambour0:()((1:12:-1(2:-11:1)(1:a))))",
		"a ref of one number":          "(7:tambour0:()((1:1(2:-1)(2:-11:1)(1:a))))",
		"a ref of three numbers":       "(7:tambour0:()((1:1(2:-11:01:0)(2:-11:1)(1:a))))",
		"a ref of a list and a number": "(7:tambour0:()((1:1((2:-1)1:0)(2:-11:1)(1:a))))",
		"a ref of no numbers":          "(7:tambour0:()((1:1(0:0:)(2:-11:1)(1:a))))",
		"a kind in a list":             "(7:tambour0:()(((1:1)(2:-11:0)(2:-11:1)(1:a))))",
		"a kind in words":              "(7:tambour0:()((3:new(2:-11:0)(2:-11:1)(1:a))))",
		"a line that's a list":         "(7:tambour0:()((1:1(2:-11:0)(2:-11:1)((1:a)))))",
		"a line that's an empty list":  "(7:tambour0:()((1:1(2:-11:0)(2:-11:1)(()))))",
		"five parts of an op":          "(7:tambour0:()((1:1(2:-11:0)(2:-11:1)(1:a)())))",
		"no end":                       "(7:tambour0:()(",
		"no last bracket":              "(7:tambour0:()()",
		"something behind":             "(7:tambour0:()())x",
		"a byte 10 behind":             "(7:tambour0:()())\n",
		"a patch behind":               "(7:tambour0:()())(7:tambour0:()())",
		"something ahead":              " (7:tambour0:()())",
		"a patch in a list":            "((7:tambour0:()()))",
		"a length with a zero ahead":   "(07:tambour0:()())",
		"a Note's length that's short": "(7:tambour00:()())",
		"nine lists":                   strings.Repeat("(", 9) + strings.Repeat(")", 9),
		"eight lists":                  strings.Repeat("(", 8) + strings.Repeat(")", 8),
		"lists within the lines":       "(7:tambour0:()((1:1(2:-11:0)(2:-11:1)(((()))))))",
	} {
		if p, e := patch.Read(s); !none(p) || !isFault(e) {
			t.Errorf("%s: Read(%q) = %v, %v", why, s, p, e)
		}
		readsAsTheWordsSay(t, s)
	}
	if _, e := patch.Read("(7:tambour0:()(" + a + "))"); e != nil {
		t.Error(e)
	}
}

// P5.1: each number written otherwise than Write would.
func TestNumbersOtherwise(t *testing.T) {
	num := func(s string) string { return fmt.Sprintf("%d:%s", len(s), s) }
	op := func(kind, at, n, at2, n2 string) string {
		return "(7:tambour0:(64:" + dep(1) + ")((" + num(kind) + "(" + num(at) + num(n) + ")(" + num(at2) + num(n2) + ")())))"
	}
	if _, e := patch.Read(op("2", "-1", "0", "0", "5")); e != nil {
		t.Fatal(e)
	}
	for _, other := range []func(s string) string{
		func(s string) string { return "0" + s },
		func(s string) string { return "+" + s },
		func(s string) string { return " " + s },
		func(s string) string { return s + " " },
		func(s string) string { return s + "\n" },
		func(s string) string { return s + ".0" },
		func(s string) string { return s + "e0" },
		func(s string) string { return "0x" + s },
		func(s string) string { return "-0" + strings.TrimPrefix(s, "-") },
		func(s string) string { return "--" + s },
		func(s string) string { return "_" + s },
		func(s string) string { return s + "\x00" },
		func(s string) string { return "" },
		func(s string) string { return "-" },
		func(s string) string { return s + "00000000000000000000" },
		func(s string) string { return "18446744073709551616" },
		func(s string) string { return "１" },
	} {
		for i := range 5 {
			all := []string{"2", "-1", "0", "0", "5"}
			all[i] = other(all[i])
			s := op(all[0], all[1], all[2], all[3], all[4])
			if p, e := patch.Read(s); !none(p) || !isFault(e) {
				t.Errorf("Read(%q) = %v, %v", s, p, e)
			}
			readsAsTheWordsSay(t, s)
		}
	}
}

// written says f's bytes, for what is a form and what is none.
func written(f api.Form) string {
	if !f.List {
		return fmt.Sprintf("%d:%s", len(f.Text), f.Text)
	}
	out := "("
	for _, item := range f.Items {
		out += written(item)
	}
	return out + ")"
}

// others are forms near f: each of its parts in turn is left out, there twice, or something else.
func others(f api.Form) []api.Form {
	out := []api.Form{{}, {List: true}, {Text: written(f)}, {List: true, Items: []api.Form{f}}}
	if !f.List {
		for _, s := range []string{"0", "1", "2", "3", "4", "5", "-1", "-2", "00", "0" + f.Text, f.Text + "0", "+" + f.Text, f.Text + " ", dep(0), dep(1), "tambour", "\n", ">>>>>>>"} {
			out = append(out, api.Form{Text: s})
		}
		return out
	}
	with := func(l ...[]api.Form) { out = append(out, api.Form{List: true, Items: slices.Concat(l...)}) }
	for i := range len(f.Items) + 1 {
		for _, more := range []api.Form{{}, {List: true}, {Text: "1"}, {Text: dep(1)}} {
			with(f.Items[:i], []api.Form{more}, f.Items[i:])
		}
	}
	for i, item := range f.Items {
		with(f.Items[:i], f.Items[i+1:])
		with(f.Items[:i], []api.Form{item, item}, f.Items[i+1:])
		with(f.Items[:i])
		if item.List {
			with(f.Items[:i], item.Items, f.Items[i+1:])
		}
		if i > 0 {
			with(f.Items[:i-1], []api.Form{item, f.Items[i-1]}, f.Items[i+1:])
		}
		for _, other := range others(item) {
			with(f.Items[:i], []api.Form{other}, f.Items[i+1:])
		}
	}
	return out
}

// P5.1, P5.2: each part of a patch that is missing, is there too often, or is another form: just what the words say.
func TestEachPart(t *testing.T) {
	for _, p := range ordinary() {
		f, e := terms.Read(plain(p))
		if e != nil {
			t.Fatal(e)
		}
		wrong := 0
		all := others(f)
		for _, other := range all {
			s := written(other)
			if _, ok := patchOf(s); !ok {
				wrong++
			}
			readsAsTheWordsSay(t, s)
		}
		if wrong < len(all)/2 || wrong == len(all) {
			t.Errorf("%q: %d of %d are no patches", plain(p), wrong, len(all))
		}
	}
}

// P5.1, P5.2: each byte at each place of a patch's bytes, instead and beside, and each beginning and end of them.
func TestEachByte(t *testing.T) {
	for _, p := range ordinary() {
		s := plain(p)
		for place := range len(s) + 1 {
			for i := range 256 {
				if len(s) > 200 && i%31 != 0 && !strings.Contains("()0123456789:-af", string(rune(i))) {
					continue
				}
				b := string([]byte{byte(i)})
				readsAsTheWordsSay(t, s[:place]+b+s[place:])
				if place < len(s) {
					readsAsTheWordsSay(t, s[:place]+b+s[place+1:])
				}
			}
			readsAsTheWordsSay(t, s[:place])
			readsAsTheWordsSay(t, s[place:])
			if place < len(s) {
				readsAsTheWordsSay(t, s[:place]+s[place+1:])
			}
		}
	}
}

// P5.1, R2: the bytes of patches that aren't right, and of more than MaxForm: none of them is read.
func TestReadWrong(t *testing.T) {
	for why, p := range map[string]api.Patch{
		"a note":               {Note: strings.Repeat("n", 101)},
		"too many ops":         with(1, times(401, del(line(0, 0)))...),
		"too many lines":       with(0, put(slices.Repeat([]string{"a"}, 301)...)),
		"too many Deps":        with(65),
		"a line that's long":   with(0, put(strings.Repeat("x", 501))),
		"one byte too many":    ofSize(65537),
		"many bytes too many":  ofSize(100000),
		"a ref of an op ahead": with(0, join(own(0), bottom), put("a")),
	} {
		if q, e := patch.Read(plain(p)); !none(q) || !isFault(e) {
			t.Errorf("%s: %v, %v", why, q, e)
		}
	}
	for _, n := range []int{65536, 65537} {
		for _, part := range []string{"(", ")", "0", "x", "()", "0:"} {
			s := strings.Repeat(part, n)[:n]
			for _, s := range []string{s, "(7:tambour0:()" + s, "(7:tambour0:()(" + s[:n-20] + "))", "(7:tambour0:(" + s[:n-20] + ")())"} {
				if p, e := patch.Read(s); !none(p) || !isFault(e) {
					t.Errorf("Read(%.40q), %d bytes: %v, %v", s, len(s), p, e)
				}
			}
		}
	}
}
