package terms_test

import (
	"fmt"
	"math/big"
	"regexp"
	"strings"
	"testing"

	"tambour/api"
	"tambour/terms"
)

var length = regexp.MustCompile(`^(0|[1-9][0-9]*):`)

// isRead says the chapter's words: s is a form's bytes, of depth 8 at most.
func isRead(s string) bool {
	for open := 0; s != ""; {
		if told := length.FindString(s); told != "" {
			s = s[len(told):]
			n, _ := new(big.Int).SetString(told[:len(told)-1], 10)
			if n.Cmp(big.NewInt(int64(len(s)))) > 0 {
				return false
			}
			s = s[n.Int64():]
		} else if s[0] == '(' {
			open++
			s = s[1:]
		} else if s[0] == ')' {
			open--
			s = s[1:]
		} else {
			return false
		}
		if open < 0 || open > 8 {
			return false
		}
		if open == 0 {
			return s == ""
		}
	}
	return false
}

// asTheWordsSay holds Read against them: what it takes Write gives, and what it doesn't is told by ErrForm or ErrBig, with nothing beside.
func asTheWordsSay(t *testing.T, s string) {
	t.Helper()
	f, e := terms.Read(s)
	want := api.ErrForm
	if len(s) > api.MaxForm {
		want = api.ErrBig
	}
	if want == api.ErrBig || !isRead(s) {
		if !none(f) || !only(e, want) {
			t.Errorf("Read(%.60q) = %v, %v", s, f, e)
		}
		return
	}
	if e != nil || plain(f) != s {
		t.Errorf("Read(%.60q) = %v, %v", s, f, e)
	}
	if got, e := terms.Write(f); got != s || e != nil {
		t.Errorf("Write of Read(%.60q) = %.60q, %v", s, got, e)
	}
}

// P4.1: Read, of ordinary bytes.
func TestRead(t *testing.T) {
	for s, want := range map[string]api.Form{
		"0:":                   text(""),
		"1:a":                  text("a"),
		"1::":                  text(":"),
		"1:(":                  text("("),
		"2:()":                 text("()"),
		"3:1:a":                text("1:a"),
		"2:\x00\xff":           text("\x00\xff"),
		"2:é":                  text("é"),
		"9:123456789":          text("123456789"),
		"10:1234567890":        text("1234567890"),
		"11:12345678901":       text("12345678901"),
		"()":                   list(),
		"(())":                 list(list()),
		"(0:)":                 list(text("")),
		"(0:0:0:)":             list(text(""), text(""), text("")),
		"(2:ab()2:-5)":         list(text("ab"), list(), text("-5")),
		"(1:))":                list(text(")")),
		"(1:(1:))":             list(text("("), text(")")),
		"(()(()())1:a(1:b))":   list(list(), list(list(), list()), text("a"), list(text("b"))),
		"(10:((((((((((1:a)":   list(text("(((((((((("), text("a")),
		"((((((((1:a))))))))":  deep(8, text("a")),
		"(()(((((((0:))))))))": list(list(), deep(7, text(""))),
	} {
		f, e := terms.Read(s)
		if !same(f, want) || e != nil {
			t.Errorf("Read(%q) = %v, %v", s, f, e)
		}
		if got, e := terms.Write(f); got != s || e != nil {
			t.Errorf("Write of Read(%q) = %q, %v", s, got, e)
		}
	}
}

// P4.1, R2, R6: ErrForm, and nothing beside it, of bytes that are no form's, by themselves; and of lists that have them in it, what the words say.
func TestNotRead(t *testing.T) {
	for why, s := range map[string]string{
		"a zero ahead":                     "02:ab",
		"a zero ahead of none":             "00:",
		"a zero ahead, and one byte":       "01:a",
		"many zeros":                       strings.Repeat("0", 100) + ":",
		"many zeros, and a digit":          strings.Repeat("0", 100) + "1:a",
		"a plus":                           "+1:a",
		"a minus":                          "-1:a",
		"a minus, and none":                "-0:",
		"a blank ahead":                    " 1:a",
		"a blank ahead of the colon":       "1 :a",
		"a blank alone":                    " ",
		"a byte 10":                        "\n",
		"a byte 0":                         "\x00",
		"no length":                        ":",
		"no length, and a byte":            ":a",
		"no colon, no byte":                "1",
		"no colon, of none":                "0",
		"no colon":                         "1a",
		"no colon, digits alone":           "12345",
		"no colon but another sign":        "1;a",
		"no colon, but a list":             "1()",
		"base 16":                          "0x1:a",
		"base 16, letters":                 "a:0123456789",
		"no byte behind":                   "1:",
		"one byte less than is told":       "2:a",
		"one byte less of ten":             "10:123456789",
		"no bytes of 65536":                "65536:",
		"no bytes of 65530":                "65530:",
		"2^31":                             "2147483648:a",
		"2^32":                             "4294967296:",
		"2^32 and one":                     "4294967297:a",
		"2^63 less one":                    "9223372036854775807:a",
		"2^63":                             "9223372036854775808:a",
		"2^63 and one":                     "9223372036854775809:a",
		"2^64 less one":                    "18446744073709551615:a",
		"2^64":                             "18446744073709551616:",
		"2^64 and one":                     "18446744073709551617:a",
		"2^64 and two":                     "18446744073709551618:ab",
		"2^128 and one":                    "340282366920938463463374607431768211457:a",
		"2^32 times 2^32, and one of it":   "36893488147419103233:a",
		"a length of a thousand digits":    strings.Repeat("9", 1000) + ":a",
		"a length of 1 and a thousand 0":   "1" + strings.Repeat("0", 1000) + ":a",
		"digits of full width":             "１:a",
		"digits of another script":         "١:a",
		"no UTF-8":                         "\xff",
		"letters":                          "x",
		"an opening bracket":               "(",
		"two opening brackets":             "((",
		"a list that isn't closed":         "(()",
		"a text, and it isn't closed":      "(1:a",
		"a bracket in a text closes none":  "(1:)",
		"a blank in a list":                "( )",
		"a comma in a list":                "(1:a,1:b)",
		"half a text in a list":            "(1:",
		"other brackets":                   "[]",
		"nine lists":                       strings.Repeat("(", 9) + strings.Repeat(")", 9),
		"nine lists, and a text":           strings.Repeat("(", 9) + "1:a" + strings.Repeat(")", 9),
		"nine lists that aren't closed":    strings.Repeat("(", 9),
		"nine lists, the second goes deep": "(()" + strings.Repeat("(", 8) + strings.Repeat(")", 9),
		"nine lists, ahead of a text":      "(" + strings.Repeat("(", 8) + strings.Repeat(")", 8) + "1:a)",
		"ten lists":                        strings.Repeat("(", 10) + strings.Repeat(")", 10),
		"lists and texts, nine deep":       strings.Repeat("(1:a", 9) + strings.Repeat("1:b)", 9),
		"a length past the list's end":     "(3:a)",
		"a length to the list's end":       "(2:a)",
		"behind a text, a byte":            "1:ab",
		"behind a text, a text":            "1:a1:b",
		"behind a text, a list":            "1:a()",
		"behind a text, a bracket":         "1:a)",
		"behind a list, a byte":            "()x",
		"behind a list, a byte 10":         "()\n",
		"behind a list, a byte 0":          "()\x00",
		"behind a list, a list":            "()()",
		"behind a list, a text":            "()0:",
		"behind a list, a digit":           "()0",
		"closed too often":                 "())",
		"closed too often, deep":           "((1:a)))",
		"closed alone":                     ")",
		"closed ahead":                     ")(",
		"no bytes":                         "",
	} {
		if f, e := terms.Read(s); !none(f) || !only(e, api.ErrForm) {
			t.Errorf("%s: Read(%.60q) = %v, %v", why, s, f, e)
		}
		// A length may reach into what is put behind it here.
		for _, s := range []string{s, "(" + s + ")", "(" + s + "1:a)", "(()" + s + ")", "((" + s + ")1:a())"} {
			asTheWordsSay(t, s)
		}
	}
}

// P4.1, P4.2: Read, of each few bytes out of those that forms are made of: just what the words say, and what Write gives.
func TestFewBytes(t *testing.T) {
	n := 7
	if testing.Short() {
		n = 5
	}
	texts("()012:", n, func(s string) { asTheWordsSay(t, s) })
	texts("()0:", n+1, func(s string) { asTheWordsSay(t, s) })
	texts("()", 2*n+4, func(s string) { asTheWordsSay(t, s) })
	texts("019-+: ", 5, func(s string) { asTheWordsSay(t, s+":abcdefghijkl") })
	texts("012: ", 4, func(s string) { asTheWordsSay(t, "("+s+":ab)") })
}

// P4.1: each value of a byte at each place of a form's bytes.
func TestEachByte(t *testing.T) {
	for _, s := range []string{"0:", "1:a", "12:abcdefghijkl", "()", "(2:ab()2:-5)", "(((())))", "((((((((0:))))))))"} {
		for place := range len(s) + 1 {
			for i := range 256 {
				b := string([]byte{byte(i)})
				asTheWordsSay(t, s[:place]+b+s[place:])
				if place < len(s) {
					asTheWordsSay(t, s[:place]+b+s[place+1:])
				}
			}
			asTheWordsSay(t, s[:place])
			asTheWordsSay(t, s[place:])
		}
	}
}

// P4.1: each value of a byte behind a length's first digit, with so many bytes behind that it may be taken for more than a digit.
func TestEachByteInALength(t *testing.T) {
	for i := range 256 {
		for n := range 300 {
			asTheWordsSay(t, "1"+string([]byte{byte(i)})+":"+strings.Repeat("x", n))
		}
	}
}

// P4.1: depths near MaxDeep, the deepest first, last and between.
func TestReadDepth(t *testing.T) {
	for _, n := range []int{1, 2, 7, 8, 9, 10, 100} {
		for i, f := range append(around(n, text("x")), around(n, list())...) {
			s := plain(f)
			if depth(f) <= api.MaxDeep != isRead(s) {
				t.Fatalf("depth %d, form %d", depth(f), i)
			}
			asTheWordsSay(t, s)
			asTheWordsSay(t, s+")")
			asTheWordsSay(t, s[:len(s)-1])
		}
	}
}

// P4.1, R1, R2: at just MaxForm bytes Read takes what is a form; at one more it's ErrBig, whatever they are.
func TestReadSize(t *testing.T) {
	for _, n := range []int{65535, 65536, 65537, 65538} {
		for why, f := range ofSize(n) {
			g, e := terms.Read(plain(f))
			if n > api.MaxForm && (!none(g) || !only(e, api.ErrBig)) || n <= api.MaxForm && (!same(f, g) || e != nil) {
				t.Errorf("%s, %d bytes: %v", why, n, e)
			}
		}
		for _, part := range []string{"(", ")", "()", "1", "0", "9", ":", "1:", "0:", "1:a", "(0:", "x", "\x00", "\xff", " ", "(()", "(1:a"} {
			s := strings.Repeat(part, n)[:n]
			for _, s := range []string{s, "(" + s[:n-2] + ")", "1:" + s[:n-2], fmt.Sprint(n-6) + ":" + s[:n-6]} {
				asTheWordsSay(t, s)
			}
		}
	}
	for _, n := range []int{1 << 17, 1 << 24} {
		for _, part := range []string{"(", "9", "x"} {
			if f, e := terms.Read(strings.Repeat(part, n)); !none(f) || !only(e, api.ErrBig) {
				t.Errorf("%d times %s: %v", n, part, e)
			}
		}
	}
}

// P4.1: bytes that open lists for ever: ErrForm up to MaxForm of them, ErrBig of one more.
func TestOpenLists(t *testing.T) {
	for n, want := range map[int]api.Errno{8: api.ErrForm, 9: api.ErrForm, 60000: api.ErrForm, 65535: api.ErrForm, 65536: api.ErrForm, 65537: api.ErrBig, 1 << 24: api.ErrBig} {
		if f, e := terms.Read(strings.Repeat("(", n)); !none(f) || !only(e, want) {
			t.Errorf("%d opening brackets: %v", n, e)
		}
	}
}

// P0, P4.1, P4.2: of any bytes.
func FuzzTerms(f *testing.F) {
	for _, s := range []string{"", "0:", "2:ab", "02:ab", "()", "(2:ab()2:-5)", "()x", "(", strings.Repeat("(", 9), "18446744073709551617:a", "-0", "05"} {
		f.Add(s, 0, 9)
	}
	f.Fuzz(func(t *testing.T, s string, least, most int) {
		asTheWordsSay(t, s)
		form := text(s[:min(len(s), 60000)])
		s = form.Text
		if got, e := terms.Write(form); e != nil || !isRead(got) || got != plain(form) {
			t.Errorf("Write of %q: %q, %v", s, got, e)
		}
		n, e := terms.Number(form, least, most)
		want, ok := new(big.Int).SetString(s, 10)
		ok = ok && want.String() == s && want.Cmp(big.NewInt(int64(least))) >= 0 && want.Cmp(big.NewInt(int64(most))) <= 0
		if ok && (n != int(want.Int64()) || e != nil) || !ok && (n != 0 || !only(e, api.ErrForm)) {
			t.Errorf("Number of %q, %d to %d: %d, %v", s, least, most, n, e)
		}
	})
}
