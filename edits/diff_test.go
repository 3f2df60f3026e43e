package edits_test

import (
	"math"
	"math/rand"
	"slices"
	"strconv"
	"strings"
	"testing"
	"time"

	"tambour/api"
	"tambour/edits"
)

// cost of edits: all lines that are cut, and all that are put.
func cost(h []api.Hunk) int {
	n := 0
	for _, k := range h {
		n += k.Cut + len(k.Put)
	}
	return n
}

// least is the least cost of all edits of a of which b comes, told row by row.
func least(a, b []string) int {
	row := make([]int, len(b)+1)
	for y := range row {
		row[y] = y
	}
	for x := range a {
		corner := row[0]
		row[0] = x + 1
		for y := range b {
			here := min(row[y], row[y+1]) + 1
			if a[x] == b[y] {
				here = corner
			}
			corner, row[y+1] = row[y+1], here
		}
	}
	return row[len(b)]
}

// differ holds Diff of a and b against all that the chapter says of it.
func differ(t *testing.T, a, b []string) []api.Hunk {
	t.Helper()
	h := edits.Diff(a, b)
	leads(t, a, b, h)
	if n := least(a, b); n <= api.MaxWork && cost(h) != n {
		t.Fatalf("Diff(%q, %q) costs %d, not %d: %v", a, b, cost(h), n, h)
	}
	return h
}

// leads: h are edits of a of which b comes, and which lead back.
func leads(t *testing.T, a, b []string, h []api.Hunk) {
	t.Helper()
	if !right(h, len(a)) || !edits.Right(h, len(a)) {
		t.Fatalf("Diff of %d and %d lines: no edits: %.500v", len(a), len(b), h)
	}
	if c, e := edits.Apply(a, h); e != nil || !slices.Equal(c, b) {
		t.Fatalf("Diff of %d and %d lines: Apply: %.500q, %v", len(a), len(b), c, e)
	}
	if slices.Equal(a, b) != (len(h) == 0) {
		t.Fatalf("Diff of %d and %d lines: %d hunks", len(a), len(b), len(h))
	}
	leadsBack(t, a, b, h)
}

// P2.1: Diff, where there is but one of the least cost.
func TestDiffExamples(t *testing.T) {
	for _, c := range []struct {
		a, b string
		want []api.Hunk
	}{
		{"a b c", "a x c", []api.Hunk{{At: 1, Cut: 1, Put: []string{"x"}}}},
		{"a", "a", nil},
		{"", "", nil},
		{"a b c", "a b c", nil},
		{"", "a b", []api.Hunk{{At: 0, Put: []string{"a", "b"}}}},
		{"a b", "", []api.Hunk{{At: 0, Cut: 2}}},
		{"a", "b", []api.Hunk{{At: 0, Cut: 1, Put: []string{"b"}}}},
		{"a b", "x a b", []api.Hunk{{At: 0, Put: []string{"x"}}}},
		{"a b", "a b x", []api.Hunk{{At: 2, Put: []string{"x"}}}},
		{"a b", "a x b", []api.Hunk{{At: 1, Put: []string{"x"}}}},
		{"a b c", "b c", []api.Hunk{{At: 0, Cut: 1}}},
		{"a b c", "a b", []api.Hunk{{At: 2, Cut: 1}}},
		{"a b c d e", "x y b d e z", []api.Hunk{{At: 0, Cut: 1, Put: []string{"x", "y"}}, {At: 2, Cut: 1}, {At: 5, Put: []string{"z"}}}},
		{"a b c d", "c d a b e", nil},
		{"a a a", "a", nil},
		{"a b c a b b a", "c b a b a c", nil},
	} {
		a, b := strings.Fields(c.a), strings.Fields(c.b)
		if h := differ(t, a, b); c.want != nil && !same(h, c.want) {
			t.Errorf("Diff(%q, %q) = %v", a, b, h)
		}
	}
	for _, a := range [][]string{nil, {}} {
		for _, b := range [][]string{nil, {}} {
			differ(t, a, b)
		}
		differ(t, a, []string{""})
		differ(t, []string{""}, a)
	}
	differ(t, []string{"", "a", "", ""}, []string{"", "", "a", ""})
	differ(t, []string{"\xff", "\xfe\n", "\x00"}, []string{"\xff\xfe", "\n", "\x00"})
}

// P2.1, P2.2: Diff, of each two lists of few lines.
func TestDiffOfSmallLists(t *testing.T) {
	for _, all := range [][][]string{lists([]string{"a", "b"}, 7), lists([]string{"a", "b", "c"}, 5)} {
		for _, a := range all {
			for _, b := range all {
				differ(t, a, b)
			}
		}
	}
}

// count is n lines, none like another.
func count(n int, word string) []string {
	out := make([]string, n)
	for i := range out {
		out[i] = word + strconv.Itoa(i)
	}
	return out
}

// P2.1: Diff, of lists that are just MaxWork apart, about it, and more.
func TestDiffAtMaxWork(t *testing.T) {
	a := count(api.MaxLines, "line")
	for _, n := range []int{49, 50, 51, 99, 100, 101, 150} {
		spread, put, cut, doubled := slices.Clone(a), slices.Clone(a), slices.Clone(a), slices.Clone(a)
		for i := range n {
			spread[2*i] += "x"
			put = slices.Insert(put, 2*i, "put"+strconv.Itoa(i))
			cut = slices.Delete(cut, i, i+1)
			doubled = slices.Insert(doubled, 2*i, doubled[2*i])
		}
		for _, b := range [][]string{spread, put, cut, doubled, a[n:], a[:len(a)-n], slices.Concat(a[:7], a[7+n:]), slices.Concat(count(n, "put"), a), slices.Concat(a, count(n, "put")), slices.Concat(a[n/2:], count(n-n/2, "put")), slices.Concat(a[n/2:], a[:n/2])} {
			differ(t, a, b)
			differ(t, b, a)
		}
		differ(t, count(n, "a"), count(100-min(n, 100), "b"))
		differ(t, slices.Repeat([]string{"x"}, 300), slices.Repeat([]string{"x"}, 300-n))
		differ(t, slices.Repeat([]string{"x"}, n), nil)
	}
}

// P2.1, P2.2: Diff, of lists by chance, few words and many, near each other and far.
func TestDiffOfAnyLists(t *testing.T) {
	r := rand.New(rand.NewSource(2))
	for range 3000 {
		words := 1 + r.Intn(1+r.Intn(40))
		a := make([]string, r.Intn(160))
		for i := range a {
			a[i] = strconv.Itoa(r.Intn(words))
		}
		b := slices.Clone(a)
		for range r.Intn(1 + r.Intn(120)) {
			at := r.Intn(len(b) + 1)
			if r.Intn(2) == 0 && at < len(b) {
				b = slices.Delete(b, at, min(len(b), at+1+r.Intn(3)))
			} else {
				b = slices.Insert(b, at, strconv.Itoa(r.Intn(words)))
			}
		}
		differ(t, a, b)
	}
}

// P2.1: Diff, of lists by chance that are just MaxWork apart, so that one search too short by one edit would lose the way.
func TestDiffOfAnyListsAtMaxWork(t *testing.T) {
	r := rand.New(rand.NewSource(4))
	for found := 0; found < 300; {
		words := 2 + r.Intn(5)
		a, b := make([]string, 60+r.Intn(90)), make([]string, 60+r.Intn(90))
		for i := range a {
			a[i] = strconv.Itoa(r.Intn(words))
		}
		for i := range b {
			b[i] = strconv.Itoa(r.Intn(words))
		}
		if n := least(a, b); n == api.MaxWork || n == api.MaxWork-1 {
			differ(t, a, b)
			found++
		}
	}
}

// P2.1, R7: the same lists, of other memory: the same edits.
func TestDiffIsOne(t *testing.T) {
	for _, n := range []int{3, 40, 250} {
		a := strings.Split(strings.Repeat("a b c a b b a ", n), " ")
		b := strings.Split(strings.Repeat("c b a b a c ", n), " ")
		h := edits.Diff(a, b)
		other := edits.Diff(copied(a), copied(b))
		if !same(h, other) {
			t.Errorf("%d: %v, then %v", n, h, other)
		}
	}
}

// copied is the same lines in memory of their own, the list with room behind it.
func copied(l []string) []string {
	out := make([]string, 0, 2*len(l))
	for _, s := range l {
		out = append(out, strings.Clone(s))
	}
	return out
}

// Beyond MaxWork the cost isn't said; it would be a loss, though, if the lines between changes far apart weren't kept.
func TestDiffKeepsFarApart(t *testing.T) {
	a := count(4000, "line")
	b := slices.Clone(a)
	for i := 0; i < len(b); i += 10 {
		b[i] += "x"
	}
	h := edits.Diff(a, b)
	leads(t, a, b, h)
	if cost(h) != 800 {
		t.Errorf("costs %d", cost(h))
	}
	b = slices.Concat(a[:50], a[900:1000], []string{"new"}, a[1001:])
	h = edits.Diff(a, b)
	leads(t, a, b, h)
	if cost(h) != 852 {
		t.Errorf("costs %d", cost(h))
	}
	if h = edits.Diff(b, a); cost(h) != 852 {
		t.Errorf("costs %d the other way", cost(h))
	}
}

// Nor would it be good if a great change reached into what is the same at both ends.
func TestDiffKeepsTheEnds(t *testing.T) {
	r := rand.New(rand.NewSource(5))
	middle := func() []string {
		out := make([]string, 200)
		for i := range out {
			out[i] = strconv.Itoa(r.Intn(9))
		}
		return out
	}
	head, tail := count(100, "head"), slices.Repeat([]string{"1", "2", "3"}, 50)
	for range 50 {
		a := slices.Concat(head, middle(), []string{"a"}, tail)
		b := slices.Concat(head, middle(), []string{"b"}, tail)
		h := edits.Diff(a, b)
		leads(t, a, b, h)
		last := h[len(h)-1]
		if h[0].At < len(head) || last.At+last.Cut > len(a)-len(tail) {
			t.Errorf("from %d to %d", h[0].At, last.At+last.Cut)
		}
	}
}

// P2.3: lists so long that steps in the order of their lines' product wouldn't end within the time, nor find room.
func TestDiffOfLongLists(t *testing.T) {
	const n = 200000
	a := count(n, "line")
	r := rand.New(rand.NewSource(3))
	two, other := make([]string, n), make([]string, n)
	for i := range n {
		two[i], other[i] = strconv.Itoa(r.Intn(2)), strconv.Itoa(r.Intn(2))
	}
	few := slices.Clone(a)
	for i := range 50 {
		few[i*(n/50)] = "few"
	}
	xs, ys := slices.Repeat([]string{"x"}, n), slices.Repeat([]string{"y"}, n)
	turns, turned := slices.Repeat([]string{"x", "y"}, n/2), slices.Repeat([]string{"y", "x"}, n/2)
	turned = append(turned, "z")
	back := slices.Clone(a)
	slices.Reverse(back)
	for name, c := range map[string]struct {
		a, b  []string
		least int
	}{
		"the same":               {a, copied(a), 0},
		"few apart":              {a, few, 100},
		"unlike":                 {xs, ys, -1},
		"unlike, each":           {a, count(n, "other"), -1},
		"one line, fewer":        {xs, xs[:n-100], 100},
		"one line, far fewer":    {xs, xs[:n/2], -1},
		"two lines":              {two, other, -1},
		"two lines, moved":       {two, slices.Concat(two[50:], other[:50]), 100},
		"two lines, moved far":   {two, slices.Concat(two[5000:], other[:5000]), -1},
		"in turns":               {turns, turned, 3},
		"turned about":           {a, back, -1},
		"nothing, then all":      {nil, a, -1},
		"all, then nothing":      {a, nil, -1},
		"one, then all":          {[]string{"line77777"}, a, -1},
		"one line of all others": {slices.Concat(xs, []string{"y"}, xs), xs, -1},
		"thirds":                 {slices.Repeat([]string{"x", "y", "z"}, n/3), slices.Repeat([]string{"z", "x", "x", "y"}, n/4), -1},
	} {
		start := time.Now()
		h := edits.Diff(c.a, c.b)
		if took := time.Since(start); took > 10*time.Second {
			t.Errorf("%s: %v", name, took)
		}
		leads(t, c.a, c.b, h)
		if c.least >= 0 && cost(h) > c.least {
			t.Errorf("%s: costs %d", name, cost(h))
		}
	}
}

// P0, P2.1, P2.2: whatever lists and hunks come.
func FuzzEdits(f *testing.F) {
	f.Add("a b c", "a x c", 1, 1, 0, 0)
	f.Add("a b c a b b a", "c b a b a c", 0, 2, 3, 1)
	f.Add("", "a", -1, 0, math.MaxInt/2+1, math.MaxInt/2+1)
	f.Add(strings.Repeat("a b ", 200), strings.Repeat("b c a ", 90), math.MaxInt, 1, math.MinInt, -1)
	f.Fuzz(func(t *testing.T, one, two string, at, cut, next, last int) {
		a, b := strings.Split(one, " "), strings.Split(two, " ")
		differ(t, a, b)
		oneByOne(t, a, []api.Hunk{{At: at, Cut: cut, Put: b}, {At: next, Cut: last}})
		oneByOne(t, b, []api.Hunk{{At: at, Cut: cut}, {At: next, Cut: last, Put: a}})
	})
}
