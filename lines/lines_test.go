package lines_test

import (
	"errors"
	"slices"
	"strings"
	"testing"

	"tambour/api"
	"tambour/lines"
)

// P1.1: Split and Join.
func TestSplitAndJoin(t *testing.T) {
	for _, c := range []struct {
		text string
		list []string
	}{
		{"", []string{""}},
		{"a", []string{"a"}},
		{"a\n", []string{"a", ""}},
		{"\na", []string{"", "a"}},
		{"\n", []string{"", ""}},
		{"\n\n", []string{"", "", ""}},
		{"a\n\nb", []string{"a", "", "b"}},
		{"one\ntwo\nthree\n", []string{"one", "two", "three", ""}},
		{"a\r\nb\r", []string{"a\r", "b\r"}},
		{"a\vb\fc\x00d", []string{"a\vb\fc\x00d"}},
		{"a\u0085b\u2028c\u2029d", []string{"a\u0085b\u2028c\u2029d"}},
		{"\xff\n\xc3\n\x28\x80", []string{"\xff", "\xc3", "\x28\x80"}},
		{"\xe2\n\x80\xa8", []string{"\xe2", "\x80\xa8"}},
		{">>>>>>> order\na\n=======\nb\n<<<<<<<", []string{">>>>>>> order", "a", "=======", "b", "<<<<<<<"}},
	} {
		if got := lines.Split(c.text); !slices.Equal(got, c.list) {
			t.Errorf("Split(%q) = %q, want %q", c.text, got, c.list)
		}
		if got := lines.Join(c.list); got != c.text {
			t.Errorf("Join(%q) = %q, want %q", c.list, got, c.text)
		}
	}
}

func TestJoinOfFew(t *testing.T) {
	for _, l := range [][]string{nil, {}, {""}} {
		if got := lines.Join(l); got != "" {
			t.Errorf("Join(%q) = %q", l, got)
		}
	}
}

// Join puts its bytes between whatever it is given, lines or not.
func TestJoinOfNoLines(t *testing.T) {
	if got := lines.Join([]string{"a\n", "\n", "b"}); got != "a\n\n\n\nb" {
		t.Errorf("%q", got)
	}
}

// P1.1: one line more than there are bytes 10, and nothing lost beyond the limits that only Check knows.
func TestSplitCounts(t *testing.T) {
	for _, n := range []int{0, 1, api.MaxLines - 1, api.MaxLines, api.MaxFile, api.MaxFile + 1, 1 << 20} {
		l := lines.Split(strings.Repeat("\n", n))
		if len(l) != n+1 {
			t.Fatalf("%d bytes 10: %d lines", n, len(l))
		}
		if i := slices.IndexFunc(l, func(s string) bool { return s != "" }); i >= 0 {
			t.Errorf("%d bytes 10: line %d is %q", n, i, l[i])
		}
	}
	long := strings.Repeat("x", 1<<20)
	if l := lines.Split(long + "\n" + long); !slices.Equal(l, []string{long, long}) {
		t.Error("two long lines are not these two")
	}
}

// P1.1: Marker, of all three kinds.
func TestMarker(t *testing.T) {
	for _, sign := range []string{">", "=", "<"} {
		for n := range 20 {
			s := strings.Repeat(sign, n)
			if got := lines.Marker(s); got != (n >= 7) {
				t.Errorf("Marker(%q) = %t", s, got)
			}
			if got := lines.Marker(s + " order"); got != (n >= 7) {
				t.Errorf("Marker(%q) = %t", s+" order", got)
			}
			if lines.Marker(" " + s) {
				t.Errorf("Marker(%q)", " "+s)
			}
		}
	}
	for _, s := range []string{">>>>>>> order", ">>>>>>> tangled", ">>>>>>> doubtful", ">>>>>>>x", "=======\r", "=======<", "<<<<<<<\xff", "<<<<<<<\x00", ">>>>>>>=======", "<<<<<<<" + strings.Repeat("a", 1<<20)} {
		if !lines.Marker(s) {
			t.Errorf("%.20q is a marker", s)
		}
	}
}

func TestNoMarker(t *testing.T) {
	for _, s := range []string{"", " ", "a", "\xff", " >>>>>>>", "\t=======", "a<<<<<<<", "\xff<<<<<<<", "\ufeff=======", ">>>>>> >", ">>>>>>=", "======<", "<<<<<<>", ">======", "=<<<<<<", ">=<>=<>", "-------", "+++++++", "|||||||", "???????", ";;;;;;;", "\x00\x00\x00\x00\x00\x00\x00", "»»»»»»»", "›››››››", "＝＝＝＝＝＝＝"} {
		if lines.Marker(s) {
			t.Errorf("%q is no marker", s)
		}
	}
}

// P1.1: one byte that is another one at any of the seven places makes it no marker.
func TestMarkerBytes(t *testing.T) {
	for _, sign := range []byte(">=<") {
		for place := range 7 {
			for b := range 256 {
				s := []byte(strings.Repeat(string(rune(sign)), 7))
				s[place] = byte(b)
				if got := lines.Marker(string(s)); got != (byte(b) == sign) {
					t.Errorf("Marker(%q) = %t", s, got)
				}
			}
		}
	}
}

// full is a text of as many bytes, in lines of as many bytes each, with the bytes 10 behind them; the last one has the rest.
func full(size, width int) string {
	var b strings.Builder
	for b.Len()+width+1 <= size {
		b.WriteString(strings.Repeat("x", width))
		b.WriteByte('\n')
	}
	b.WriteString(strings.Repeat("y", size-b.Len()))
	return b.String()
}

// P1.1: Check, of texts at the limits, each by itself and together.
func TestCheckTakes(t *testing.T) {
	long := strings.Repeat("x", api.MaxLine)
	for name, s := range map[string]string{
		"empty":                "",
		"a line":               "a",
		"a byte 10 at the end": "a\nb\n",
		"markers":              ">>>>>>> order\na\n=======\nb\n<<<<<<<",
		"no UTF-8":             "\xff\xfe\n\x80\xc3\x28",
		"most bytes":           full(api.MaxFile, 99),
		"most bytes, ended":    full(api.MaxFile-1, 99) + "\n",
		"most lines":           strings.Repeat("\n", api.MaxLines-1),
		"most lines, no empty": strings.Repeat("a\n", api.MaxLines-1) + "a",
		"a longest line":       long,
		"longest line first":   long + "\na",
		"longest line between": "a\n" + long + "\nb",
		"longest line last":    "a\n" + long,
		"longest line, ended":  long + "\n",
		"longest, no UTF-8":    strings.Repeat("\xff", api.MaxLine),
		"longest, carried":     strings.Repeat("x", api.MaxLine-1) + "\r\n",
		"many longest lines":   full(api.MaxFile, api.MaxLine),
		"all three at once":    brim(),
	} {
		if e := lines.Check(s); e != nil {
			t.Errorf("%s: %v", name, e)
		}
	}
}

// brim is a text at all three limits at once.
func brim() string {
	l := []string{strings.Repeat("x", api.MaxLine)}
	for len(l) < api.MaxLines-1 {
		l = append(l, "a")
	}
	rest := api.MaxFile - len(strings.Join(l, "\n")) - 1
	for i := 1; rest > api.MaxLine; i++ {
		l[i] = strings.Repeat("b", api.MaxLine)
		rest -= api.MaxLine - 1
	}
	return strings.Join(append(l, strings.Repeat("c", rest)), "\n")
}

// P1.1: a text at all three limits stands, and one past one of them doesn't, though the others hold.
func TestCheckAtTheBrim(t *testing.T) {
	s := brim()
	longest := 0
	for l := range strings.SplitSeq(s, "\n") {
		longest = max(longest, len(l))
	}
	if n := strings.Count(s, "\n") + 1; len(s) != api.MaxFile || n != api.MaxLines || longest != api.MaxLine {
		t.Fatal(len(s), n, longest)
	}
	if e := lines.Check(s); e != nil {
		t.Error(e)
	}
	for name, more := range map[string]string{
		"a byte more":        s + "c",
		"a line more":        strings.Replace(s, "\na\n", "\n\n\n", 1)[1:],
		"a longer line":      "x" + s[:len(s)-1],
		"a longer line last": s[api.MaxLine+1:] + strings.Repeat("c", api.MaxLine+1),
	} {
		if e := lines.Check(more); !errors.Is(e, api.ErrBig) {
			t.Errorf("%s: %v", name, e)
		}
	}
}

// P1.1: Check, of texts that are past one limit and within the others, and past several.
func TestCheckRefuses(t *testing.T) {
	over := strings.Repeat("x", api.MaxLine+1)
	for name, s := range map[string]string{
		"a byte more":               full(api.MaxFile+1, 99),
		"a byte 10 more":            full(api.MaxFile, 99) + "\n",
		"a line more":               strings.Repeat("\n", api.MaxLines),
		"a line more, no empty":     strings.Repeat("a\n", api.MaxLines) + "a",
		"a line more, empty":        strings.Repeat("a\n", api.MaxLines),
		"a longer line":             over,
		"longer line first":         over + "\na",
		"longer line between":       "a\n" + over + "\nb",
		"longer line last":          "a\n" + over,
		"longer line, ended":        over + "\n",
		"longer line, carried":      strings.Repeat("x", api.MaxLine) + "\r\n",
		"longer line, no UTF-8":     strings.Repeat("\xff", api.MaxLine+1),
		"few runes of many bytes":   strings.Repeat("é", api.MaxLine/2+1),
		"few runes, many bytes all": strings.Repeat(strings.Repeat("é", 99)+"\n", 42),
		"all three":                 strings.Repeat(over+"\n", api.MaxLines),
		"a mebibyte":                strings.Repeat("x", 1<<20),
		"a mebibyte of bytes 10":    strings.Repeat("\n", 1<<20),
	} {
		e := lines.Check(s)
		if !errors.Is(e, api.ErrBig) {
			t.Errorf("%s: %v", name, e)
			continue
		}
		var n api.Errno
		if !errors.As(e, &n) || n != api.ErrBig {
			t.Errorf("%s: number %d", name, n)
		}
	}
}

// texts calls f with each text of at most n bytes out of those of bytes.
func texts(bytes string, n int, f func(string)) {
	f("")
	if n == 0 {
		return
	}
	for i := range len(bytes) {
		texts(bytes, n-1, func(s string) { f(bytes[i:i+1] + s) })
	}
}

// P1.2: Join of Split is the text; and what P1.1 says of the lines' number and of their bytes.
func TestJoinOfSplit(t *testing.T) {
	texts("a\n\r\xff", 6, func(s string) {
		l := lines.Split(s)
		if got := lines.Join(l); got != s {
			t.Errorf("%q came back as %q", s, got)
		}
		if len(l) != strings.Count(s, "\n")+1 {
			t.Errorf("%q: %d lines", s, len(l))
		}
		if slices.ContainsFunc(l, func(x string) bool { return strings.Contains(x, "\n") }) {
			t.Errorf("%q: a line with a byte 10: %q", s, l)
		}
	})
	every := make([]byte, 256)
	for i := range every {
		every[i] = byte(i)
	}
	for _, s := range []string{string(every), full(api.MaxFile, api.MaxLine), strings.Repeat("\n", api.MaxLines), strings.Repeat("\xff\n", 5000)} {
		if got := lines.Join(lines.Split(s)); got != s {
			t.Errorf("%.40q came back as %.40q", s, got)
		}
	}
}

// P1.2: Split of Join of lines is these lines, the empty ones among them.
func TestSplitOfJoin(t *testing.T) {
	words := []string{"", "a", "\r", "\xff\x80", ">>>>>>> order", strings.Repeat("x", api.MaxLine+1)}
	for n := 1; n <= 4; n++ {
		for i := range power(len(words), n) {
			l := make([]string, n)
			for k := range l {
				l[k] = words[i%len(words)]
				i /= len(words)
			}
			if got := lines.Split(lines.Join(l)); !slices.Equal(got, l) {
				t.Errorf("%.80q came back as %.80q", l, got)
			}
		}
	}
}

func power(base, n int) int {
	p := 1
	for range n {
		p *= base
	}
	return p
}

// R4: what is handed in stays as it is, the room behind it too; each answer is memory of its own.
func TestMemory(t *testing.T) {
	room := []string{"a", "b", "c", "d"}
	if got := lines.Join(room[:2]); got != "a\nb" {
		t.Errorf("%q", got)
	}
	if !slices.Equal(room, []string{"a", "b", "c", "d"}) {
		t.Errorf("Join left %q", room)
	}
	first := lines.Split("a\nb")
	second := lines.Split("a\nb")
	first[0] = "z"
	_ = append(first[:1], "y")
	if !slices.Equal(second, []string{"a", "b"}) || !slices.Equal(lines.Split("a\nb"), []string{"a", "b"}) {
		t.Errorf("one answer reached another: %q", second)
	}
}

// P0: each call ends and none panics, whatever bytes come; what it answers holds against the words said anew.
func FuzzLines(f *testing.F) {
	for _, s := range []string{"", "a\n", "\n\n\n", ">>>>>>> order", " =======", "<<<<<<", "\xff\n\xfe", strings.Repeat("x", api.MaxLine+1), strings.Repeat("\n", api.MaxLines), full(api.MaxFile+1, 99)} {
		f.Add(s)
	}
	f.Fuzz(func(t *testing.T, s string) {
		l := lines.Split(s)
		if lines.Join(l) != s || len(l) != strings.Count(s, "\n")+1 {
			t.Errorf("%q: %q", s, l)
		}
		big := len(s) > 8192 || len(l) > 300
		for _, x := range l {
			big = big || len(x) > 500
			if lines.Marker(x) != begins(x) {
				t.Errorf("Marker(%q) = %t", x, lines.Marker(x))
			}
		}
		if e := lines.Check(s); big != errors.Is(e, api.ErrBig) || !big && e != nil {
			t.Errorf("Check(%q) = %v", s, e)
		}
	})
}

// begins says Marker's words byte by byte.
func begins(s string) bool {
	for i := 0; i < len(s) && i < 7; i++ {
		if s[i] != s[0] || !strings.ContainsRune(">=<", rune(s[0])) {
			return false
		}
	}
	return len(s) >= 7
}
