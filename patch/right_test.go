package patch_test

import (
	"slices"
	"strings"
	"testing"

	"tambour/api"
	"tambour/patch"
)

// rightOrNot holds p against what the test says of it, and against the chapter's words.
func rightOrNot(t *testing.T, why string, want bool, p api.Patch) {
	t.Helper()
	if patch.Right(p) != want {
		t.Errorf("%s: Right is %t", why, !want)
	}
	asTheWordsSay(t, p)
}

// P5.1: ops of each kind, and of kinds that there aren't, with the fields of each.
func TestKinds(t *testing.T) {
	for kind := -3; kind <= 12; kind++ {
		two, one := kind == 2 || kind == 3, kind == 4 || kind == 5
		rightOrNot(t, "two refs and a line", kind == 1, with(2, api.Op{Kind: kind, A: line(0, 1), B: line(1, 2), Lines: []string{"a"}}))
		rightOrNot(t, "two refs", two, with(2, api.Op{Kind: kind, A: line(0, 1), B: line(1, 2)}))
		rightOrNot(t, "one ref", one, with(2, api.Op{Kind: kind, A: line(0, 0)}))
		rightOrNot(t, "one ref, and {0, 0}, as some kinds tell it", one || two, with(2, api.Op{Kind: kind, A: line(0, 1), B: line(0, 0)}))
		rightOrNot(t, "one ref, an empty list", one, with(2, api.Op{Kind: kind, A: line(0, 0), Lines: []string{}}))
		rightOrNot(t, "two refs, an empty list", two, with(2, api.Op{Kind: kind, A: line(0, 1), B: line(1, 2), Lines: []string{}}))
		rightOrNot(t, "nothing", false, api.Patch{Ops: []api.Op{{Kind: kind}}})
		rightOrNot(t, "a line alone", false, api.Patch{Ops: []api.Op{{Kind: kind, Lines: []string{"a"}}}})
	}
}

// P5.1: each field that a kind doesn't tell, being something else than zero.
func TestFieldsNotTold(t *testing.T) {
	for _, o := range []api.Op{join(line(0, 1), line(1, 2)), cut(line(0, 1), line(1, 2)), join(top, bottom), cut(top, bottom), del(line(1, 3)), revive(line(1, 3)), del(line(0, 0)), revive(line(0, 0))} {
		rightOrNot(t, "as it is", true, with(2, put("x", "y"), o))
		for _, l := range [][]string{{""}, {"a"}, {"a", "b"}, {"\n"}} {
			o.Lines = l
			rightOrNot(t, "lines", false, with(2, put("x", "y"), o))
		}
	}
	for _, o := range []api.Op{del(line(1, 3)), revive(line(1, 3)), del(line(0, 0)), revive(line(0, 0))} {
		for _, b := range []api.Ref{line(0, 1), line(0, 299), line(0, -1), line(1, 0), line(1, 3), top, bottom, own(0), own(1), line(2, 0), line(-3, 0)} {
			o.B = b
			rightOrNot(t, "a B", false, with(2, put("x", "y"), o))
		}
	}
}

// refs are right and wrong ones, of each At and N near what there may be.
func refs() []api.Ref {
	var out []api.Ref
	for at := -4; at <= 4; at++ {
		for _, n := range []int{-300, -2, -1, 0, 1, 2, 3, 4, 5, 298, 299, 300, 301} {
			out = append(out, api.Ref{At: at, N: n})
		}
	}
	return out
}

// P5.1: each ref as A and as B of each kind, in patches of none to three Deps, with none to four lines ahead.
func TestRefs(t *testing.T) {
	for _, r := range refs() {
		for n := range 4 {
			for _, ahead := range [][]api.Op{nil, {put("x")}, {put("x", "y", "z")}, {put("x"), put("y", "z", "x")}} {
				for _, o := range []api.Op{
					del(r), revive(r), join(top, r), join(r, bottom), cut(top, r), cut(r, bottom), putBetween(top, r, "a"), putBetween(r, bottom, "a", "b"),
					join(r, r), cut(r, r), putBetween(r, r, "a"), join(line(0, 0), r), cut(r, own(0)), putBetween(r, line(0, 1), "a"),
				} {
					asTheWordsSay(t, with(n, append(slices.Clone(ahead), o)...))
				}
			}
		}
	}
}

// P5.1: refs, one by one, as the chapter names them.
func TestRefsByName(t *testing.T) {
	ab := put("a", "b")
	for _, c := range []struct {
		why  string
		want bool
		p    api.Patch
	}{
		{"the top and the bottom", true, with(0, put("a"), join(top, bottom), cut(top, bottom))},
		{"A the bottom", false, with(1, putBetween(bottom, line(0, 0), "a"))},
		{"A the bottom, of Join", false, with(1, join(bottom, line(0, 0)))},
		{"A the bottom, of Cut", false, with(1, cut(bottom, line(0, 0)))},
		{"B the top", false, with(1, putBetween(line(0, 0), top, "a"))},
		{"B the top, of Join", false, with(1, join(line(0, 0), top))},
		{"B the top, of Cut", false, with(1, cut(line(0, 0), top))},
		{"from the bottom to the top", false, with(0, putBetween(bottom, top, "a"))},
		{"the top twice", false, with(0, putBetween(top, top, "a"))},
		{"the bottom twice", false, with(0, putBetween(bottom, bottom, "a"))},
		{"{-1, 2}", false, with(0, join(top, api.Ref{At: -1, N: 2}))},
		{"{-1, -1}", false, with(0, join(api.Ref{At: -1, N: -1}, bottom))},
		{"A and B alike, of another patch", false, with(1, putBetween(line(0, 5), line(0, 5), "a"))},
		{"A and B alike, of its own", false, with(0, ab, putBetween(own(1), own(1), "a"))},
		{"A and B alike, of Join", false, with(1, join(line(0, 5), line(0, 5)))},
		{"A and B alike, of Cut", false, with(0, ab, cut(own(0), own(0)))},
		{"one line of two patches", true, with(2, join(line(0, 5), line(1, 5)))},
		{"two lines of one patch", true, with(1, join(line(0, 5), line(0, 4)))},
		{"its own, of the op ahead", true, with(0, ab, putBetween(own(0), own(1), "c"))},
		{"its own, the last of the op ahead", true, with(0, ab, join(own(1), bottom))},
		{"its own, the first of the op itself", false, with(0, ab, putBetween(own(0), own(2), "c"))},
		{"its own, the first of all", false, with(0, putBetween(own(0), bottom, "a"))},
		{"its own, the last of the op itself", false, with(0, ab, putBetween(own(3), bottom, "c", "d"))},
		{"its own, of an op behind", false, with(0, ab, join(own(2), bottom), put("c"))},
		{"its own, of an op far ahead", true, with(1, ab, put("c"), del(line(0, 0)), join(own(0), own(2)))},
		{"its own, below 0", false, with(0, ab, join(own(-1), bottom))},
		{"its own, where other kinds stood ahead", false, with(1, del(line(0, 0)), join(own(0), bottom))},
		{"its own, deleted", false, with(0, ab, del(own(0)))},
		{"its own, revived", false, with(0, ab, revive(own(1)))},
		{"the top deleted", false, with(1, del(top))},
		{"the bottom deleted", false, with(1, del(bottom))},
		{"the top revived", false, with(1, revive(top))},
		{"the bottom revived", false, with(1, revive(bottom))},
		{"another patch's line, the first", true, with(1, del(line(0, 0)))},
		{"another patch's line, the last", true, with(1, del(line(0, 299)))},
		{"another patch's line, one past it", false, with(1, del(line(0, 300)))},
		{"another patch's line, below 0", false, with(1, del(line(0, -1)))},
		{"the last of its Deps", true, with(64, del(line(63, 299)), join(line(62, 299), line(63, 299)))},
		{"one past its Deps", false, with(63, del(line(63, 0)))},
		{"one past 64 Deps", false, with(64, del(line(64, 0)))},
		{"the first of no Deps", false, with(0, del(line(0, 0)))},
		{"{-3, 0}", false, with(1, ab, join(line(-3, 0), bottom))},
		{"all right, but the last op", false, with(1, ab, del(line(0, 0)), join(own(0), own(1)), del(line(0, 300)))},
		{"all right, but the first op", false, with(1, del(line(0, 300)), ab, del(line(0, 0)), join(own(0), own(1)))},
	} {
		rightOrNot(t, c.why, c.want, c.p)
	}
}

// P5.1: what the lines of a New may be.
func TestLines(t *testing.T) {
	long := strings.Repeat("x", 500)
	for why, l := range map[string][]string{
		"one":                 {"a"},
		"the empty one":       {""},
		"the empty one twice": {"", ""},
		"one twice":           {"a", "a"},
		"of 500 bytes":        {long},
		"two of 500 bytes":    {long, long},
		"of 500 bytes, 250 é": {strings.Repeat("é", 250)},
		"any bytes":           {"\x00\xff\xfe\r\t\x0b()1:a", "\xe2\x80\xa8"},
		"nearly markers":      {" >>>>>>>", ">>>>>>", "======", "<<<<<<", "<<<<<<x<", ">>>===<<<", "=>=>=>=>=>=>=>", "->>>>>>>"},
		"300":                 slices.Repeat([]string{"a"}, 300),
	} {
		rightOrNot(t, why, true, with(0, put(l...)))
		rightOrNot(t, why+", behind another op", len(l) < 300, with(1, put("x"), del(line(0, 0)), putBetween(own(0), bottom, l...)))
	}
	for why, l := range map[string][]string{
		"none":                   nil,
		"an empty list":          {},
		"of 501 bytes":           {long + "x"},
		"of 501 bytes, the last": {"a", long, long + "x"},
		"of 502 bytes, 251 é":    {strings.Repeat("é", 251)},
		"a byte 10":              {"\n"},
		"a byte 10 first":        {"\na"},
		"a byte 10 last":         {"a\n"},
		"a byte 10 within":       {"a\nb"},
		"a byte 10, the last":    {"a", "b\n"},
		"a byte 10, the first":   {"b\n", "a"},
		"a byte 10, the 500th":   {long[:499] + "\n"},
		"301":                    slices.Repeat([]string{"a"}, 301),
	} {
		rightOrNot(t, why, false, with(0, put(l...)))
		rightOrNot(t, why+", behind another op", false, with(1, put("x"), del(line(0, 0)), putBetween(own(0), bottom, l...)))
	}
	for _, sign := range []string{">", "=", "<"} {
		for n := range 20 {
			for _, rest := range []string{"", " order", "x", "\xff", " "} {
				s := strings.Repeat(sign, n) + rest
				rightOrNot(t, s, n < 7, with(0, put(s)))
				rightOrNot(t, s+", the last", n < 7, with(0, put("a", "", s)))
				rightOrNot(t, s+", the first", n < 7, with(0, put(s, "", "a")))
			}
		}
	}
	for i := range 256 {
		s := "a" + string([]byte{byte(i)}) + "b"
		rightOrNot(t, s, i != 10, with(0, put(s)))
	}
}

// P5.1: MaxLines lines and one more, in one op and in several.
func TestMaxLines(t *testing.T) {
	l := slices.Repeat([]string{"a"}, 400)
	for why, c := range map[string][]int{
		"one op":               {300},
		"two ops":              {150, 150},
		"all but one":          {1, 299},
		"one behind all":       {299, 1},
		"an op a line":         slices.Repeat([]int{1}, 300),
		"three ops, unlike":    {17, 200, 83},
		"fewer":                {299},
		"three hundred less 1": {100, 199},
	} {
		var ops []api.Op
		for _, n := range c {
			ops = append(ops, put(l[:n]...))
		}
		p := with(1, append(ops, del(line(0, 0)))...)
		rightOrNot(t, why, true, p)
		room := 300 - patch.Made(p)
		rightOrNot(t, why+", and one more", false, with(1, append(ops, put(l[:room+1]...))...))
		rightOrNot(t, why+", and one more ahead", false, with(1, append([]api.Op{put(l[:room+1]...)}, ops...)...))
		rightOrNot(t, why+", and 300 more", false, with(1, append(ops, put(l[:300]...))...))
		rightOrNot(t, why+", and 400 more", false, with(1, append(ops, put(l...))...))
	}
}

// P5.1: MaxOps ops and one more, of each kind.
func TestMaxOps(t *testing.T) {
	for _, o := range []api.Op{join(top, line(0, 0)), cut(line(0, 0), line(0, 1)), del(line(0, 0)), revive(line(0, 0))} {
		for n := 398; n <= 403; n++ {
			rightOrNot(t, "one kind", n <= 400, with(1, times(n, o)...))
			rightOrNot(t, "New, and another", n <= 400, with(1, append(times(100, put("a")), times(n-100, o)...)...))
		}
	}
	rightOrNot(t, "300 of New", true, with(0, times(300, put("a"))...))
	rightOrNot(t, "none", true, with(0))
}

// P5.1: a Note of MaxNote bytes and of one more.
func TestNote(t *testing.T) {
	for n := range 300 {
		for _, sign := range []string{"n", "\x00", "\n", "\xff", ">", ")", "é"} {
			note := strings.Repeat(sign, n)[:n]
			rightOrNot(t, "a note", n <= 100, api.Patch{Note: note})
			rightOrNot(t, "a note, and an op", n <= 100, api.Patch{Note: note, Ops: []api.Op{put("a")}})
		}
	}
	rightOrNot(t, "60 runes, 120 bytes", false, api.Patch{Note: strings.Repeat("é", 60)})
	rightOrNot(t, "a marker", true, api.Patch{Note: ">>>>>>> order\n=======\n<<<<<<<"})
}

// P5.1: MaxDeps names and one more; each of all lengths and of all bytes; out of order, and twice.
func TestDeps(t *testing.T) {
	for n := range 70 {
		rightOrNot(t, "names", n <= 64, with(n))
		rightOrNot(t, "names, and an op", n <= 64, with(n, put("a")))
	}
	name := strings.Repeat("0123456789abcdef", 4)
	for n := range 140 {
		rightOrNot(t, "a length", n == 64, api.Patch{Deps: []string{strings.Repeat("a", n)}})
		rightOrNot(t, "a length, the last", n == 64, api.Patch{Deps: []string{name, strings.Repeat("a", n)}})
	}
	for place := range 64 {
		for i := range 256 {
			b := byte(i)
			digit := '0' <= b && b <= '9' || 'a' <= b && b <= 'f'
			rightOrNot(t, "a byte", digit, api.Patch{Deps: []string{name[:place] + string([]byte{b}) + name[place+1:]}})
		}
	}
	a, b, c := dep(9), dep(10), strings.Repeat("f", 64)
	for _, x := range []struct {
		why  string
		want bool
		deps []string
	}{
		{"rising", true, []string{a, b, c}},
		{"the last first", false, []string{c, a, b}},
		{"the first two turned", false, []string{b, a, c}},
		{"the last two turned", false, []string{a, c, b}},
		{"falling", false, []string{c, b, a}},
		{"one twice", false, []string{a, a}},
		{"the first twice", false, []string{a, a, b}},
		{"the last twice", false, []string{a, b, b}},
		{"one twice, apart", false, []string{a, b, a}},
		{"no name", false, []string{""}},
		{"no name, first", false, []string{"", a}},
		{"no name, last", false, []string{a, ""}},
		{"no name, between", false, []string{a, dep(9) + "0", b}},
		{"capital letters", false, []string{strings.ToUpper(c)}},
		{"a byte 10 behind", false, []string{a + "\n"}},
		{"two in one", false, []string{a + b}},
		{"the bytes, not the digits", false, []string{strings.Repeat("\x00", 32)}},
		{"64 of one name", false, slices.Repeat([]string{a}, 64)},
	} {
		rightOrNot(t, x.why, x.want, api.Patch{Deps: x.deps})
		rightOrNot(t, x.why+", and an op", x.want, api.Patch{Deps: x.deps, Ops: []api.Op{put("a")}})
	}
	for i := range 64 {
		twice := deps(64)
		twice[i] = twice[(i+1)%64]
		rightOrNot(t, "64, one of them twice", false, api.Patch{Deps: twice})
	}
}

// ofSize is a patch of n bytes, right but for that: n from some 20000 on.
func ofSize(n int) api.Patch {
	p := with(20, put(""), del(line(19, 299)), putBetween(own(0), bottom))
	p.Note = strings.Repeat("n", 90)
	long := strings.Repeat("x", 500)
	for {
		left := n - len(plain(p))
		if left < 700 {
			// Each of the two lines that are left has between 100 and 500 bytes, and four beside.
			p.Ops[2].Lines = append(p.Ops[2].Lines, long[:(left-8)/2], long[:left-8-(left-8)/2])
			return p
		}
		p.Ops[2].Lines = append(p.Ops[2].Lines, long[:400])
	}
}

// P5.1: bytes that are just MaxForm, and above.
func TestMaxForm(t *testing.T) {
	for _, n := range []int{20000, 65000, 65534, 65535, 65536, 65537, 65538, 66000, 70000, 100000} {
		p := ofSize(n)
		if len(plain(p)) != n || patch.Made(p) > 300 {
			t.Fatalf("%d bytes, not %d; %d lines", len(plain(p)), n, patch.Made(p))
		}
		rightOrNot(t, "its bytes", n <= 65536, p)
	}
	most := with(64, times(400, put(""))...)
	for i := range most.Ops {
		most.Ops[i] = join(line(62, 299), line(63, 299))
		if i < 300 {
			most.Ops[i] = putBetween(line(62, 299), line(63, 299), strings.Repeat("x", 500))
		}
	}
	rightOrNot(t, "as much as there may be of everything", false, most)
	for i := range 300 {
		most.Ops[i].Lines = []string{strings.Repeat("x", 130)}
	}
	rightOrNot(t, "as much as there may be, of shorter lines", true, most)
}

// P5.1, P5.2: each op of a few refs and lines, behind none to two lines, in patches of none to two Deps.
func TestSmallPatches(t *testing.T) {
	few := []api.Ref{top, bottom, {At: -1, N: 2}, {At: -1, N: -1}, own(-1), own(0), own(1), own(2), line(-3, 0), line(0, 0), line(0, 299), line(0, 300), line(1, 0), line(1, -1), line(2, 0)}
	for _, ahead := range [][]api.Op{nil, {put("x")}, {put("x", "y")}} {
		for n := range 3 {
			for kind := range 7 {
				for _, a := range few {
					for _, b := range few {
						for _, l := range [][]string{nil, {"a"}, {"a", "=======", ""}} {
							asTheWordsSay(t, with(n, append(slices.Clone(ahead), api.Op{Kind: kind, A: a, B: b, Lines: l})...))
						}
					}
				}
			}
		}
	}
}
