package edits_test

import (
	"errors"
	"math"
	"math/big"
	"reflect"
	"slices"
	"strings"
	"testing"

	"tambour/api"
	"tambour/edits"
)

// x is one line to be put.
func x() []string { return []string{"x"} }

// P2.1: hunks that are edits of a list of n lines.
func TestRight(t *testing.T) {
	for name, c := range map[string]struct {
		h []api.Hunk
		n int
	}{
		"no hunks, no lines":         {nil, 0},
		"no hunks, an empty list":    {[]api.Hunk{}, 3},
		"no hunks, most lines":       {nil, math.MaxInt},
		"no hunks, n below 0":        {nil, -1},
		"no hunks, n least":          {nil, math.MinInt},
		"put into nothing":           {[]api.Hunk{{At: 0, Put: x()}}, 0},
		"put an empty line":          {[]api.Hunk{{At: 0, Put: []string{""}}}, 0},
		"put at the beginning":       {[]api.Hunk{{At: 0, Put: x()}}, 2},
		"put at the end":             {[]api.Hunk{{At: 2, Put: x()}}, 2},
		"cut one":                    {[]api.Hunk{{At: 1, Cut: 1}}, 2},
		"cut, an empty Put":          {[]api.Hunk{{At: 1, Cut: 1, Put: []string{}}}, 2},
		"cut all":                    {[]api.Hunk{{At: 0, Cut: 2}}, 2},
		"cut and put all":            {[]api.Hunk{{At: 0, Cut: 2, Put: x()}}, 2},
		"two with one line between":  {[]api.Hunk{{At: 0, Cut: 1}, {At: 2, Cut: 1}}, 3},
		"puts with a line between":   {[]api.Hunk{{At: 0, Put: x()}, {At: 1, Put: x()}}, 1},
		"puts, the second at an end": {[]api.Hunk{{At: 0, Cut: 1, Put: x()}, {At: 2, Put: x()}}, 2},
		"the first at the end":       {[]api.Hunk{{At: 5, Put: x()}}, 5},
		"the greatest At":            {[]api.Hunk{{At: math.MaxInt, Put: x()}}, math.MaxInt},
		"the greatest Cut":           {[]api.Hunk{{At: 0, Cut: math.MaxInt}}, math.MaxInt},
		"the greatest end":           {[]api.Hunk{{At: 1, Cut: 1}, {At: math.MaxInt - 1, Cut: 1}}, math.MaxInt},
	} {
		if !edits.Right(c.h, c.n) {
			t.Errorf("%s: %v of %d are edits", name, c.h, c.n)
		}
	}
}

func TestNotRight(t *testing.T) {
	for name, c := range map[string]struct {
		h []api.Hunk
		n int
	}{
		"nothing cut and put":         {[]api.Hunk{{At: 0}}, 2},
		"nothing, an empty Put":       {[]api.Hunk{{At: 0, Put: []string{}}}, 2},
		"nothing, second":             {[]api.Hunk{{At: 0, Cut: 1}, {At: 2}}, 3},
		"At below 0":                  {[]api.Hunk{{At: -1, Cut: 1}}, 2},
		"At below 0, put":             {[]api.Hunk{{At: -1, Put: x()}}, 2},
		"At below 0, an end above":    {[]api.Hunk{{At: -1, Cut: 2, Put: x()}}, 2},
		"Cut below 0":                 {[]api.Hunk{{At: 1, Cut: -1, Put: x()}}, 2},
		"Cut below 0, nothing put":    {[]api.Hunk{{At: 1, Cut: -1}}, 2},
		"At above n":                  {[]api.Hunk{{At: 3, Put: x()}}, 2},
		"At above n, cut":             {[]api.Hunk{{At: 3, Cut: 1}}, 2},
		"an end above n":              {[]api.Hunk{{At: 1, Cut: 2}}, 2},
		"an end above n, none":        {[]api.Hunk{{At: 0, Cut: 1, Put: x()}}, 0},
		"the last end above n":        {[]api.Hunk{{At: 0, Cut: 1}, {At: 2, Cut: 2}}, 3},
		"At is the end ahead":         {[]api.Hunk{{At: 0, Cut: 1}, {At: 1, Cut: 1}}, 3},
		"At is the end ahead, put":    {[]api.Hunk{{At: 0, Cut: 1}, {At: 1, Put: x()}}, 3},
		"two puts at one place":       {[]api.Hunk{{At: 1, Put: x()}, {At: 1, Put: x()}}, 3},
		"put, then cut there":         {[]api.Hunk{{At: 1, Put: x()}, {At: 1, Cut: 1}}, 3},
		"At below the end ahead":      {[]api.Hunk{{At: 0, Cut: 2}, {At: 1, Cut: 1}}, 3},
		"turned about":                {[]api.Hunk{{At: 2, Cut: 1}, {At: 0, Cut: 1}}, 3},
		"the third is the wrong one":  {[]api.Hunk{{At: 0, Cut: 1}, {At: 2, Cut: 1}, {At: 3, Cut: 1}}, 5},
		"n below 0":                   {[]api.Hunk{{At: 0, Put: x()}}, -1},
		"n below 0, At as well":       {[]api.Hunk{{At: -2, Cut: 1}}, -1},
		"n least":                     {[]api.Hunk{{At: 0, Cut: 1, Put: x()}}, math.MinInt},
		"the sum wraps":               {[]api.Hunk{{At: 1, Cut: math.MaxInt}}, 2},
		"the sum wraps, At greatest":  {[]api.Hunk{{At: math.MaxInt, Cut: 1}}, math.MaxInt},
		"the sum wraps to 0 and less": {[]api.Hunk{{At: math.MaxInt, Cut: math.MaxInt}}, 2},
		"both greatest, n as well":    {[]api.Hunk{{At: math.MaxInt, Cut: math.MaxInt}}, math.MaxInt},
		"an end, and one behind it":   {[]api.Hunk{{At: 0, Cut: math.MaxInt}, {At: 0, Cut: 1}}, math.MaxInt},
		"behind the greatest At":      {[]api.Hunk{{At: math.MaxInt, Put: x()}, {At: 0, Cut: 1}}, math.MaxInt},
		"At least, Cut greatest":      {[]api.Hunk{{At: math.MinInt, Cut: math.MaxInt}}, 2},
		"At least":                    {[]api.Hunk{{At: math.MinInt, Put: x()}}, math.MaxInt},
		"Cut least":                   {[]api.Hunk{{At: 0, Cut: math.MinInt, Put: x()}}, 2},
		"Cut least, At greatest":      {[]api.Hunk{{At: math.MaxInt, Cut: math.MinInt, Put: x()}}, math.MaxInt},
	} {
		if edits.Right(c.h, c.n) {
			t.Errorf("%s: %v of %d are no edits", name, c.h, c.n)
		}
	}
}

// right says the chapter's words in numbers that can't wrap.
func right(h []api.Hunk, n int) bool {
	number := func(i int) *big.Int { return big.NewInt(int64(i)) }
	end := number(-1)
	for _, k := range h {
		if k.At < 0 || k.Cut < 0 || k.Cut == 0 && len(k.Put) == 0 || number(k.At).Cmp(end) <= 0 {
			return false
		}
		end = new(big.Int).Add(number(k.At), number(k.Cut))
	}
	return len(h) == 0 || end.Cmp(number(n)) <= 0
}

// P2.1, R6: Right, of each pair of hunks of numbers near 0 and near the ends of their range.
func TestRightOfAnyNumbers(t *testing.T) {
	numbers := []int{math.MinInt, math.MinInt + 1, -1, 0, 1, 2, 3, math.MaxInt - 1, math.MaxInt}
	var hunks []api.Hunk
	for _, at := range numbers {
		for _, cut := range numbers {
			hunks = append(hunks, api.Hunk{At: at, Cut: cut}, api.Hunk{At: at, Cut: cut, Put: x()})
		}
	}
	for _, n := range numbers {
		for _, first := range hunks {
			if h := []api.Hunk{first}; edits.Right(h, n) != right(h, n) {
				t.Errorf("%v of %d: %t", h, n, !right(h, n))
			}
			for _, second := range hunks {
				if h := []api.Hunk{first, second}; edits.Right(h, n) != right(h, n) {
					t.Errorf("%v of %d: %t", h, n, !right(h, n))
				}
			}
		}
	}
}

// P2.1: Apply and Back, of ordinary edits; and P2.2, that Back leads back.
func TestApplyAndBack(t *testing.T) {
	for name, c := range map[string]struct {
		a    string
		h    []api.Hunk
		b    string
		back []api.Hunk
	}{
		"no hunks":            {"a b", nil, "a b", nil},
		"no hunks of nothing": {"", []api.Hunk{}, "", nil},
		"the example":         {"a b c", []api.Hunk{{At: 1, Cut: 1, Put: x()}}, "a x c", []api.Hunk{{At: 1, Cut: 1, Put: []string{"b"}}}},
		"put into nothing":    {"", []api.Hunk{{At: 0, Put: x()}}, "x", []api.Hunk{{At: 0, Cut: 1}}},
		"put at both ends":    {"a b", []api.Hunk{{At: 0, Put: x()}, {At: 2, Put: x()}}, "x a b x", []api.Hunk{{At: 0, Cut: 1}, {At: 3, Cut: 1}}},
		"cut all":             {"a b", []api.Hunk{{At: 0, Cut: 2}}, "", []api.Hunk{{At: 0, Put: []string{"a", "b"}}}},
		"cut at both ends":    {"a b c", []api.Hunk{{At: 0, Cut: 1}, {At: 2, Cut: 1}}, "b", []api.Hunk{{At: 0, Put: []string{"a"}}, {At: 1, Put: []string{"c"}}}},
		"longer and shorter":  {"a b c d e", []api.Hunk{{At: 0, Cut: 1, Put: []string{"p", "q", "r"}}, {At: 2, Cut: 2}, {At: 5, Put: x()}}, "p q r b e x", []api.Hunk{{At: 0, Cut: 3, Put: []string{"a"}}, {At: 4, Put: []string{"c", "d"}}, {At: 5, Cut: 1}}},
		"the same line again": {"a b", []api.Hunk{{At: 0, Cut: 2, Put: []string{"a", "b"}}}, "a b", []api.Hunk{{At: 0, Cut: 2, Put: []string{"a", "b"}}}},
	} {
		a, b := strings.Fields(c.a), strings.Fields(c.b)
		got, e := edits.Apply(a, c.h)
		if e != nil || !slices.Equal(got, b) {
			t.Errorf("%s: Apply: %q, %v", name, got, e)
		}
		back, e := edits.Back(a, c.h)
		if e != nil || !same(back, c.back) {
			t.Errorf("%s: Back: %v, %v", name, back, e)
		}
		if got, e = edits.Apply(b, back); e != nil || !slices.Equal(got, a) {
			t.Errorf("%s: Apply of Back: %q, %v", name, got, e)
		}
	}
}

// same holds hunks against each other; an empty Put may be nil or not.
func same(h, k []api.Hunk) bool {
	return slices.EqualFunc(h, k, func(p, q api.Hunk) bool {
		return p.At == q.At && p.Cut == q.Cut && slices.Equal(p.Put, q.Put)
	})
}

// P2.1, R2: ErrHunk, and nothing beside it, if they are no edits of a, though they may be of a longer list.
func TestRefused(t *testing.T) {
	a := []string{"a", "b"}
	for _, h := range [][]api.Hunk{
		{{At: 0}},
		{{At: 0, Put: []string{}}},
		{{At: -1, Cut: 1}},
		{{At: 0, Cut: -1, Put: x()}},
		{{At: 0, Cut: 3}},
		{{At: 2, Cut: 1}},
		{{At: 3, Put: x()}},
		{{At: 0, Cut: 1, Put: x()}, {At: 1, Put: x()}},
		{{At: 1, Cut: 1, Put: x()}, {At: 0, Cut: 1, Put: x()}},
		{{At: 0, Cut: 1, Put: x()}, {At: 2, Cut: 1, Put: x()}},
		{{At: 1, Cut: math.MaxInt}},
		{{At: math.MaxInt, Cut: math.MaxInt, Put: x()}},
		{{At: math.MinInt, Cut: math.MinInt, Put: x()}},
	} {
		out, e := edits.Apply(a, h)
		if len(out) != 0 || number(e) != api.ErrHunk {
			t.Errorf("Apply of %v: %q, %v", h, out, e)
		}
		back, e := edits.Back(a, h)
		if len(back) != 0 || number(e) != api.ErrHunk {
			t.Errorf("Back of %v: %v, %v", h, back, e)
		}
	}
	if out, e := edits.Apply(nil, []api.Hunk{{At: 0, Cut: 1, Put: x()}}); len(out) != 0 || !errors.Is(e, api.ErrHunk) {
		t.Errorf("Apply of no lines: %q, %v", out, e)
	}
}

func number(e error) api.Errno {
	var n api.Errno
	errors.As(e, &n)
	return n
}

// lists are all of at most n of the words, each once.
func lists(words []string, n int) [][]string {
	out := [][]string{{}}
	for from := 0; n > 0; n-- {
		end := len(out)
		for _, l := range out[from:end] {
			for _, w := range words {
				out = append(out, append(slices.Clone(l), w))
			}
		}
		from = end
	}
	return out
}

// P2.1, P2.2: Apply and Back, of each list of up to two hunks of lists of up to five lines: as it is said, line by line.
func TestSmallHunks(t *testing.T) {
	var hunks []api.Hunk
	for at := -1; at < 7; at++ {
		for cut := -1; cut < 4; cut++ {
			for _, put := range [][]string{nil, {"x"}, {"a", "y"}} {
				hunks = append(hunks, api.Hunk{At: at, Cut: cut, Put: put})
			}
		}
	}
	for n := range 6 {
		a := strings.Split("abcde", "")[:n]
		for _, first := range hunks {
			oneByOne(t, a, []api.Hunk{first})
			for _, second := range hunks {
				oneByOne(t, a, []api.Hunk{first, second})
			}
		}
	}
}

// oneByOne says Apply from the last hunk to the first, so that no place moves.
func oneByOne(t *testing.T, a []string, h []api.Hunk) {
	t.Helper()
	out, e := edits.Apply(a, h)
	back, f := edits.Back(a, h)
	if !right(h, len(a)) {
		if len(out) != 0 || len(back) != 0 || number(e) != api.ErrHunk || number(f) != api.ErrHunk {
			t.Errorf("%v of %q: %q, %v; %v, %v", h, a, out, e, back, f)
		}
		return
	}
	want := slices.Clone(a)
	for _, k := range slices.Backward(h) {
		want = slices.Replace(want, k.At, k.At+k.Cut, k.Put...)
	}
	if e != nil || !slices.Equal(out, want) {
		t.Errorf("Apply(%q, %v) = %q, %v", a, h, out, e)
	}
	leadsBack(t, a, out, h)
}

// leadsBack: Back of h has a hunk for each, that puts what that one cut and cuts what it put; Apply of it is a; and Back
// of that is h again.
func leadsBack(t *testing.T, a, b []string, h []api.Hunk) {
	t.Helper()
	back, e := edits.Back(a, h)
	if e != nil || len(back) != len(h) || !right(back, len(b)) {
		t.Fatalf("Back(%q, %v) = %v, %v", a, h, back, e)
	}
	for i, k := range back {
		if k.Cut != len(h[i].Put) || !slices.Equal(k.Put, a[h[i].At:h[i].At+h[i].Cut]) {
			t.Errorf("Back(%q, %v) = %v", a, h, back)
		}
	}
	if c, e := edits.Apply(b, back); e != nil || !slices.Equal(c, a) {
		t.Errorf("Apply(%q, %v) = %q, %v", b, back, c, e)
	}
	if again, e := edits.Back(b, back); e != nil || !same(again, h) {
		t.Errorf("Back of Back(%q, %v) = %v, %v", a, h, again, e)
	}
}

// R4: the arguments are as they were, the room behind them too, and no answer hangs together with them or with itself.
func TestMemory(t *testing.T) {
	room := strings.Split("a b c d e f g h", " ")
	put := []string{"x", "y", "z"}
	hunks := []api.Hunk{{At: 0, Cut: 1, Put: put[:1]}, {At: 2, Cut: 1}, {At: 4, Put: put[:2]}, {At: 9, Cut: 9}}
	a, h := room[:4], hunks[:3]
	asTheyWere := func() {
		t.Helper()
		if strings.Join(room, "") != "abcdefgh" || strings.Join(put, "") != "xyz" || !reflect.DeepEqual(hunks, []api.Hunk{{At: 0, Cut: 1, Put: []string{"x"}}, {At: 2, Cut: 1}, {At: 4, Put: []string{"x", "y"}}, {At: 9, Cut: 9}}) {
			t.Fatalf("%q %q %v", room, put, hunks)
		}
	}
	for _, h := range [][]api.Hunk{nil, h} {
		edits.Right(h, len(a))
		out, _ := edits.Apply(a, h)
		spoil(out)
		asTheyWere()
		back, _ := edits.Back(a, h)
		spoilHunks(t, back)
		asTheyWere()
	}
	b := strings.Split("p b q d r s", " ")
	diff := edits.Diff(a, b[:5])
	spoilHunks(t, diff)
	asTheyWere()
	if strings.Join(b, "") != "pbqdrs" {
		t.Fatalf("%q", b)
	}
}

// R4: nothing that was handed in is kept.
func TestNotKept(t *testing.T) {
	a, put := []string{"a", "b", "c"}, []string{"x"}
	h := []api.Hunk{{At: 0, Cut: 1, Put: put}, {At: 2, Cut: 1, Put: put}}
	out, _ := edits.Apply(a, h)
	whole, _ := edits.Apply(a, nil)
	back, _ := edits.Back(a, h)
	b := []string{"x", "b", "y", "z"}
	diff := edits.Diff(a, b)
	want := []api.Hunk{{At: 0, Cut: 1, Put: []string{"x"}}, {At: 2, Cut: 1, Put: []string{"y", "z"}}}
	spoil(a)
	spoil(b)
	spoil(put)
	if strings.Join(out, "") != "xbx" || strings.Join(whole, "") != "abc" || !same(back, []api.Hunk{{At: 0, Cut: 1, Put: []string{"a"}}, {At: 2, Cut: 1, Put: []string{"c"}}}) || !same(diff, want) {
		t.Errorf("%q %q %v %v", out, whole, back, diff)
	}
}

// spoil writes over all of a list, and over the room behind it.
func spoil(l []string) {
	l = l[:cap(l)]
	for i := range l {
		l[i] = "spoilt"
	}
}

// spoilHunks does that to hunks, and tells if one of them is to be seen in another.
func spoilHunks(t *testing.T, h []api.Hunk) {
	t.Helper()
	for i := range h {
		spoil(h[i].Put)
		for _, k := range h[i+1:] {
			if slices.Contains(k.Put, "spoilt") {
				t.Fatalf("%v", h)
			}
		}
	}
	h = h[:cap(h)]
	for i := range h {
		h[i] = api.Hunk{At: -7, Cut: -7}
	}
}
