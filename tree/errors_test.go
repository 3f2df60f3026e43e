package tree_test

import (
	"errors"
	"fmt"
	"maps"
	"math"
	"math/rand"
	"slices"
	"strings"
	"testing"

	"tambour/api"
	"tambour/tree"
)

// call is one of the four, with what it answers told as one text, and its error.
type call struct {
	why  string
	make func(p tree.Pager, root int) (string, error)
}

// none is what is told beside an error.
const none = "0 false  []"

func told(root int, has bool, val string, l []api.Pair) string {
	return fmt.Sprint(root, " ", has, " ", val, " ", l)
}

func getOf(key string) call {
	return call{"Get " + key, func(p tree.Pager, root int) (string, error) {
		val, has, e := tree.Get(p, root, key)
		return told(0, has, val, nil), e
	}}
}

func putOf(key, val string) call {
	return call{"Put " + key, func(p tree.Pager, root int) (string, error) {
		r, e := tree.Put(p, root, key, val)
		return told(r, false, "", nil), e
	}}
}

func cutOf(key string) call {
	return call{"Cut " + key, func(p tree.Pager, root int) (string, error) {
		r, had, e := tree.Cut(p, root, key)
		return told(r, had, "", nil), e
	}}
}

func rangeOf(from, to string, limit int) call {
	return call{"Range " + from, func(p tree.Pager, root int) (string, error) {
		l, e := tree.Range(p, root, from, to, limit)
		return told(0, false, "", l), e
	}}
}

// callsOn come to each part of a tree of these keys.
func callsOn(keys []string) []call {
	out := []call{rangeOf("", "", math.MaxInt), rangeOf("", "", 1), getOf("\x00"), getOf("\xff"), putOf("\x00", strings.Repeat("w", 400)), putOf("\xff", ""), cutOf("\x00")}
	for i := 0; i < len(keys); i += 1 + len(keys)/7 {
		out = append(out, getOf(keys[i]), putOf(keys[i], ""), putOf(keys[i], strings.Repeat("w", 400)), putOf(keys[i]+"b", strings.Repeat("w", 400)), cutOf(keys[i]), rangeOf(keys[i], "", 5), rangeOf(keys[i], keys[len(keys)-1], 20))
	}
	return out
}

// trees are of each height, up to one of many pages.
func trees(t testing.TB) []*grove {
	return []*grove{
		grown(t, numbered(1, 9), 3),
		grown(t, numbered(2, 9), 400),
		grown(t, numbered(20, 9), 5),
		grown(t, shuffled(numbered(12, 39), 1), 330),
		grown(t, shuffled(numbered(70, 39), 2), 180),
		grown(t, shuffled(numbered(130, 39), 3), 400),
	}
}

// P14.1, R1: ErrArg of no key and of no value, whatever the root and the pager; nothing has changed.
func TestErrArg(t *testing.T) {
	for _, g := range append(trees(t), newGrove(t)) {
		for _, key := range append(noKeys(), "a") {
			for _, val := range append(noVals(), "v") {
				if key != "a" || val != "v" {
					g.refusesPut(key, val)
				}
			}
		}
		g.holds()
		for _, root := range []int{-1, 99999, math.MinInt, math.MaxInt} {
			x := g.clone()
			x.root = root
			x.refusesPut("", "")
			x.refusesPut("a", strings.Repeat("v", 401))
		}
		x := g.clone()
		x.p.fails, x.p.err = 0, api.ErrFull
		x.refusesPut("", "v")
		x.refusesPut("a", strings.Repeat("v", 401))
	}
}

// odd is an error of somebody else's.
type odd struct{}

func (odd) Error() string { return "odd" }

// P14.1: whichever of its calls the pager refuses, its error is handed up in a Fault, and nothing beside it.
func TestPagerErrors(t *testing.T) {
	r := rand.New(rand.NewSource(14))
	seen := map[string]int{}
	for _, g := range append(trees(t), newGrove(t)) {
		for _, c := range callsOn(g.keys()) {
			x := g.clone()
			c.make(x.p, x.root)
			for at := range x.p.calls {
				y := g.clone()
				y.p.fails = at
				y.p.err = []error{api.ErrFull, api.ErrOff, api.ErrArg, api.ErrNone, odd{}, &api.Fault{What: "pager", Err: api.ErrDisk}}[r.Intn(6)]
				s, e := c.make(y.p, y.root)
				var f *api.Fault
				if s != none || !errors.Is(e, y.p.err) || !errors.As(e, &f) || f.What != "tree" || numberOf(e) != numberOf(y.p.err) {
					t.Fatalf("%s, call %d fails by %v: %s, %v", c.why, at, y.p.err, s, e)
				}
				seen[c.why[:3]]++
			}
		}
	}
	if len(seen) != 4 {
		t.Errorf("refused in %v", seen)
	}
}

// P14.1: the pager refuses each of New, Get, Put and Free in turn, and takes all others.
type picky struct {
	*pager
	what string
}

func (p picky) New() (int, error) {
	if p.what == "New" {
		return 0, api.ErrFull
	}
	return p.pager.New()
}

func (p picky) Get(n int) (string, error) {
	if p.what == "Get" {
		return "", api.ErrFull
	}
	return p.pager.Get(n)
}

func (p picky) Put(n int, s string) error {
	if p.what == "Put" {
		return api.ErrFull
	}
	return p.pager.Put(n, s)
}

func (p picky) Free(n int) error {
	if p.what == "Free" {
		return api.ErrFull
	}
	return p.pager.Free(n)
}

func TestEachRefused(t *testing.T) {
	one := grown(t, numbered(1, 9), 3)
	key := one.keys()[0]
	for _, c := range []struct {
		what string
		g    *grove
		c    call
	}{
		{"New", newGrove(t), putOf("a", "")},
		{"Put", newGrove(t), putOf("a", "")},
		{"Get", one, putOf("a", "")},
		{"Put", one, putOf("a", "")},
		{"Get", one, getOf("a")},
		{"Get", one, cutOf(key)},
		{"Free", one, cutOf(key)},
		{"Get", one, rangeOf("", "", 9)},
	} {
		x := c.g.clone()
		if s, e := c.c.make(picky{x.p, c.what}, x.root); s != none || !isFault(e, api.ErrFull) {
			t.Errorf("%s, %s fails: %s, %v", c.c.why, c.what, s, e)
		}
	}
}

// spoilt are bytes in place of s that no call has laid on a page: none, other ones, some of them, and more.
func spoilt(s string) []string {
	sure := len(strings.TrimRight(s, "\x00"))
	out := []string{"", "x", "junk", strings.Repeat("\xff", 512), strings.Repeat("x", 512), "x" + s, s + "x", s + s, s + strings.Repeat("x", 512), strings.Repeat("\xff", 70000)}
	for _, n := range []int{1, 2, 3, sure / 2, sure - 2, sure - 1} {
		out = append(out, s[:min(max(n, 0), sure-1)])
	}
	return out
}

// P14.1: ErrDisk, at each depth, of a page that is come to and wasn't laid by these calls. A page that isn't come to plays no part.
func TestErrDisk(t *testing.T) {
	for _, g := range trees(t) {
		for _, c := range callsOn(g.keys()) {
			x := g.clone()
			want, e := c.make(x.p, x.root)
			if e != nil {
				t.Fatal(c.why, e)
			}
			tried := map[int]bool{}
			for at, n := range x.p.come {
				if tried[n] || len(tried) > 12 {
					continue
				}
				tried[n] = true
				for _, s := range spoilt(g.p.pages[n]) {
					y := lenient(g)
					y.m[n] = s
					if got, e := c.make(y, g.root); got != none || !isFault(e, api.ErrDisk) {
						t.Fatalf("%s, page %d of %d has other bytes %.30q: %.50s, %v", c.why, at, len(x.p.come), s, got, e)
					}
				}
			}
			for n := range g.p.pages {
				if !slices.Contains(x.p.come, n) {
					y := g.clone()
					y.p.pages[n] = "junk"
					if got, e := c.make(y.p, y.root); got != want || e != nil {
						t.Fatalf("%s, page %d that isn't come to: %.50s, %v", c.why, n, got, e)
					}
				}
			}
		}
	}
}

// P14.1: ErrDisk of a page that has the bytes of one ahead of it, and so tells of itself or of a page ahead of it, at each depth, also as the root.
func TestNoEnd(t *testing.T) {
	rings := 0
	for _, g := range trees(t) {
		keys := g.keys()
		for i := 0; i < len(keys); i += 1 + len(keys)/9 {
			x := g.clone()
			x.get(keys[i])
			path := x.p.come
			for low, n := range path {
				for _, ahead := range path[:low] {
					for _, root := range []int{g.root, n} {
						for _, c := range []call{getOf(keys[i]), putOf(keys[i], "other"), cutOf(keys[i]), rangeOf("", "", math.MaxInt), rangeOf(keys[i], "", math.MaxInt)} {
							y := lenient(g)
							y.m[n] = g.p.pages[ahead]
							rings++
							if got, e := c.make(y, root); got != none || !isFault(e, api.ErrDisk) {
								t.Fatalf("%s, page %d of the path with the bytes of one ahead of it: %.50s, %v", c.why, low, got, e)
							}
						}
					}
				}
			}
		}
	}
	if rings == 0 {
		t.Error("no tree was of more than a page")
	}
}

// loose is a pager that doesn't look: what spoilt pages tell may be no page.
type loose struct {
	m    map[int]string
	last int
}

func lenient(g *grove) *loose {
	return &loose{m: maps.Clone(g.p.pages), last: 1 << 20}
}

func (p *loose) New() (int, error) {
	p.last++
	p.m[p.last] = ""
	return p.last, nil
}

func (p *loose) Get(n int) (string, error) {
	return p.m[n], nil
}

func (p *loose) Put(n int, s string) error {
	p.m[n] = s
	return nil
}

func (p *loose) Free(n int) error {
	delete(p.m, n)
	return nil
}

// P14.1: a root that isn't in use: the pager's error, or ErrDisk, if the pager answers something.
func TestNoRoot(t *testing.T) {
	g := grown(t, numbered(5, 9), 3)
	for _, root := range []int{7, 99, 1 << 30} {
		for _, c := range callsOn(g.keys()) {
			p := strict{g.clone().p.pages}
			if s, e := c.make(p, root); s != none || !isFault(e, api.ErrNone) {
				t.Errorf("%s, root %d: %s, %v", c.why, root, s, e)
			}
			if s, e := c.make(lenient(g), root); s != none || !isFault(e, api.ErrDisk) {
				t.Errorf("%s, root %d: %s, %v", c.why, root, s, e)
			}
		}
	}
}

// strict answers ErrNone of what isn't in use, as far as it is asked.
type strict struct {
	m map[int]string
}

func (p strict) New() (int, error) {
	return 0, api.ErrFull
}

func (p strict) Get(n int) (string, error) {
	s, is := p.m[n]
	if !is {
		return "", api.ErrNone
	}
	return s, nil
}

func (p strict) Put(int, string) error {
	return api.ErrOff
}

func (p strict) Free(int) error {
	return api.ErrOff
}

// ends looks at a call on pages of which nothing is known: it ends, and answers nothing beside an error, which is ErrDisk.
func ends(t *testing.T, c call, p tree.Pager, root int) {
	t.Helper()
	if s, e := c.make(p, root); e != nil && (s != none || !isFault(e, api.ErrDisk)) {
		t.Fatalf("%s: %.50s, %v", c.why, s, e)
	}
}

// P0: each byte of each page turned, each page of bytes 0, with the bytes of each other one, and with some of them: each call ends.
func TestTurned(t *testing.T) {
	r := rand.New(rand.NewSource(15))
	for _, g := range trees(t)[:5] {
		calls := callsOn(g.keys())
		laid := []string{strings.Repeat("\x00", 512), strings.Repeat("\x00", 600)}
		numbers := slices.Sorted(maps.Keys(g.p.pages))
		for _, n := range numbers {
			laid = append(laid, g.p.pages[n])
		}
		for _, n := range numbers {
			s := g.p.pages[n]
			for at := range s {
				p := lenient(g)
				p.m[n] = s[:at] + string([]byte{s[at] ^ byte(1+r.Intn(255))}) + s[at+1:]
				ends(t, calls[0], p, g.root)
				ends(t, calls[r.Intn(len(calls))], p, g.root)
			}
			for _, other := range laid {
				for _, c := range calls {
					p := lenient(g)
					p.m[n] = other
					ends(t, c, p, g.root)
				}
				p := lenient(g)
				at := r.Intn(1 + min(len(s), len(other)))
				p.m[n] = s[:at] + other[at:]
				ends(t, calls[r.Intn(len(calls))], p, g.root)
			}
		}
	}
}

// liar hands out pages that are in use already: what was laid there is laid over, and pages come to tell of themselves.
type liar struct {
	*loose
	r *rand.Rand
}

func (p liar) New() (int, error) {
	if n := len(p.m); n > 0 && p.r.Intn(4) == 0 {
		return slices.Sorted(maps.Keys(p.m))[p.r.Intn(n)], nil
	}
	return p.loose.New()
}

// P0: on a pager that hands pages out twice each call ends.
func TestLiar(t *testing.T) {
	for seed := range int64(300) {
		r := rand.New(rand.NewSource(seed))
		p := liar{&loose{m: map[int]string{}}, r}
		root := 0
		for range 60 {
			key := strings.Repeat("k", 38) + string(rune('a'+r.Intn(26)))
			if r.Intn(4) == 0 {
				if x, _, e := tree.Cut(p, root, key); e == nil {
					root = x
				}
			} else if x, e := tree.Put(p, root, key, bytesOf(r, r.Intn(401))); e == nil {
				root = x
			}
			for _, n := range append(slices.Sorted(maps.Keys(p.m)), root) {
				ends(t, rangeOf("", "", 1000), p, n)
				ends(t, getOf(key), p, n)
			}
		}
	}
}

// falling panics at each call.
type falling struct{}

func (falling) New() (int, error)       { panic("New") }
func (falling) Get(int) (string, error) { panic("Get") }
func (falling) Put(int, string) error   { panic("Put") }
func (falling) Free(int) error          { panic("Free") }

// hollow answers nothing at each call, not even a page's number.
type hollow struct{}

func (hollow) New() (int, error)       { return 0, nil }
func (hollow) Get(int) (string, error) { return "", nil }
func (hollow) Put(int, string) error   { return nil }
func (hollow) Free(int) error          { return nil }

// P0: no call panics, of a pager that is none, of one that is nil inside, of one that panics, and of one that answers nothing.
func TestNoPager(t *testing.T) {
	for at, p := range []tree.Pager{nil, (*pager)(nil), falling{}, hollow{}} {
		for _, root := range []int{0, 1, -1, math.MinInt, math.MaxInt} {
			for _, c := range []call{getOf("a"), getOf(""), putOf("a", "v"), putOf("", ""), cutOf("a"), cutOf(""), rangeOf("", "", 9), rangeOf("b", "a", 0)} {
				s, e := c.make(p, root)
				var f *api.Fault
				if e != nil && (s != none || !errors.As(e, &f) || f.What != "tree") {
					t.Errorf("%s, pager %d, root %d: %s, %v", c.why, at, root, s, e)
				}
			}
			for _, c := range []call{getOf("a"), putOf("a", "v"), cutOf("a"), rangeOf("", "", 9)} {
				if s, e := c.make(p, root); e == nil && (root != 0 || at < 3 && c.why == "Put a") {
					t.Errorf("%s, pager %d, root %d: %s, and no error", c.why, at, root, s)
				}
			}
		}
	}
}

// R6: any root, from and to and limit: each call ends; of a root that is none the pager's error is handed up.
func TestAnyNumbers(t *testing.T) {
	g := grown(t, numbered(30, 20), 100)
	for _, root := range []int{math.MinInt, math.MinInt32, -2, -1, 1 << 40, math.MaxInt32, math.MaxInt} {
		for _, c := range callsOn(g.keys()) {
			if s, e := c.make(strict{g.p.pages}, root); s != none || e == nil {
				t.Errorf("%s, root %d: %s, %v", c.why, root, s, e)
			}
		}
	}
}
