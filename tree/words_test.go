package tree_test

import (
	"errors"
	"maps"
	"math/rand"
	"slices"
	"strings"
	"testing"

	"tambour/api"
	"tambour/tree"
)

// pager hands out pages as the chapter says, and looks whether they are used so.
type pager struct {
	t     testing.TB
	pages map[int]string
	next  func(p *pager) int // the number of a new page, that isn't in use
	calls int
	fails int // the call, from 0 on, that answers err; below 0: none
	err   error
	come  []int // the pages that were read
}

// newPager numbers its pages from 1 on.
func newPager(t testing.TB) *pager {
	return &pager{t: t, pages: map[int]string{}, next: firstFree, fails: -1}
}

// firstFree hands a page out again as soon as its use has ended.
func firstFree(p *pager) int {
	for n := 1; ; n++ {
		if _, is := p.pages[n]; !is {
			return n
		}
	}
}

// everNew hands no page out again.
func everNew() func(*pager) int {
	last := 0
	return func(*pager) int {
		last++
		return last
	}
}

// greatFirst goes down from the greatest number that counts.
func greatFirst() func(*pager) int {
	last := 1<<31 - 1
	return func(*pager) int {
		last -= 12345
		return last + 12345
	}
}

// refused says whether this call is the one that fails.
func (p *pager) refused() bool {
	p.calls++
	return p.calls-1 == p.fails
}

func (p *pager) look(what string, n int) {
	p.t.Helper()
	if _, is := p.pages[n]; !is {
		p.t.Errorf("%s of page %d, which isn't in use", what, n)
	}
}

func (p *pager) New() (int, error) {
	if p.refused() {
		return 7, p.err
	}
	n := p.next(p)
	if _, is := p.pages[n]; is {
		p.t.Errorf("page %d is in use already", n)
	}
	p.pages[n] = "nothing was put here yet"
	return n, nil
}

func (p *pager) Get(n int) (string, error) {
	p.t.Helper()
	p.look("Get", n)
	if p.refused() {
		return p.pages[n], p.err
	}
	p.come = append(p.come, n)
	return p.pages[n], nil
}

func (p *pager) Put(n int, s string) error {
	p.t.Helper()
	p.look("Put", n)
	if len(s) > 512 {
		p.t.Errorf("Put of %d bytes", len(s))
	}
	if p.refused() {
		return p.err
	}
	p.pages[n] = strings.Clone(s)
	return nil
}

func (p *pager) Free(n int) error {
	p.t.Helper()
	p.look("Free", n)
	if p.refused() {
		return p.err
	}
	delete(p.pages, n)
	return nil
}

// clone has pages of its own, and has seen no call.
func (p *pager) clone() *pager {
	return &pager{t: p.t, pages: maps.Clone(p.pages), next: firstFree, fails: -1}
}

// numberOf is an error's number; -1 of an error that has none, or more than one.
func numberOf(e error) api.Errno {
	if e == nil {
		return api.OK
	}
	var n api.Errno
	if !errors.As(e, &n) || n == api.OK {
		return -1
	}
	for other := api.Errno(0); other < 50; other++ {
		if errors.Is(e, other) != (other == n) {
			return -1
		}
	}
	return n
}

// isFault says whether e is a Fault of tree that wraps the error n, and no other one.
func isFault(e error, n api.Errno) bool {
	var f *api.Fault
	return errors.As(e, &f) && f.What == "tree" && numberOf(e) == n
}

func isKey(s string) bool {
	return len(s) >= 1 && len(s) <= 40
}

// grove is a tree, and a table of what it has in the chapter's words.
type grove struct {
	t     testing.TB
	p     *pager
	root  int
	table map[string]string
}

func newGrove(t testing.TB) *grove {
	return &grove{t: t, p: newPager(t), table: map[string]string{}}
}

// clone is the same tree on a pager of its own.
func (g *grove) clone() *grove {
	return &grove{t: g.t, p: g.p.clone(), root: g.root, table: maps.Clone(g.table)}
}

func (g *grove) keys() []string {
	return slices.Sorted(maps.Keys(g.table))
}

// isRooted looks at the root that a call has answered.
func (g *grove) isRooted(why string) {
	g.t.Helper()
	if len(g.table) == 0 {
		if g.root != 0 {
			g.t.Fatalf("%s: root %d of no key", why, g.root)
		}
		return
	}
	if _, is := g.p.pages[g.root]; !is {
		g.t.Fatalf("%s: root %d isn't in use", why, g.root)
	}
}

func (g *grove) put(key, val string) {
	g.t.Helper()
	if !isKey(key) || len(val) > 400 {
		g.refusesPut(key, val)
		return
	}
	root, e := tree.Put(g.p, g.root, key, val)
	if e != nil {
		g.t.Fatalf("Put(%q, %d bytes): %v", key, len(val), e)
	}
	g.root, g.table[key] = root, val
	g.isRooted("Put")
}

func (g *grove) refusesPut(key, val string) {
	g.t.Helper()
	was := maps.Clone(g.p.pages)
	root, e := tree.Put(g.p, g.root, key, val)
	if root != 0 || !isFault(e, api.ErrArg) {
		g.t.Fatalf("Put(%.50q, %d bytes) = %d, %v", key, len(val), root, e)
	}
	if !maps.Equal(g.p.pages, was) {
		g.t.Fatalf("Put(%.50q, %d bytes) has changed the pages", key, len(val))
	}
}

func (g *grove) cut(key string) {
	g.t.Helper()
	_, has := g.table[key]
	root, had, e := tree.Cut(g.p, g.root, key)
	if had != has || e != nil {
		g.t.Fatalf("Cut(%.50q) = %d, %t, %v, want %t", key, root, had, e, has)
	}
	delete(g.table, key)
	g.root = root
	g.isRooted("Cut")
}

func (g *grove) get(key string) {
	g.t.Helper()
	want, is := g.table[key]
	val, has, e := tree.Get(g.p, g.root, key)
	if val != want || has != is || e != nil {
		g.t.Fatalf("Get(%.50q) = %d bytes, %t, %v, want %d bytes, %t", key, len(val), has, e, len(want), is)
	}
}

// within are the pairs that Range is to answer.
func (g *grove) within(from, to string, limit int) []api.Pair {
	var out []api.Pair
	for _, key := range g.keys() {
		if key >= from && (to == "" || key < to) && len(out) < limit {
			out = append(out, api.Pair{Key: key, Val: g.table[key]})
		}
	}
	return out
}

func (g *grove) reach(from, to string, limit int) {
	g.t.Helper()
	want := g.within(from, to, limit)
	l, e := tree.Range(g.p, g.root, from, to, limit)
	if !slices.Equal(l, want) || e != nil {
		g.t.Fatalf("Range(%.50q, %.50q, %d): %d pairs, %v, want %d", from, to, limit, len(l), e, len(want))
	}
}

// holds looks at all that the tree has; asking it changes no page.
func (g *grove) holds() {
	g.t.Helper()
	was := maps.Clone(g.p.pages)
	for key := range g.table {
		g.get(key)
	}
	g.reach("", "", len(g.table)+1)
	if !maps.Equal(g.p.pages, was) {
		g.t.Fatal("Get or Range has changed the pages")
	}
}

// isGone looks that no page is in use, on a pager with this tree alone.
func (g *grove) isGone() {
	g.t.Helper()
	if len(g.table) == 0 && (g.root != 0 || len(g.p.pages) != 0) {
		g.t.Fatalf("of no key: root %d, %d pages", g.root, len(g.p.pages))
	}
}

// kind of keys and values, of which a made order of calls is.
type kind struct {
	why string
	key func(r *rand.Rand) string
	val func(r *rand.Rand) string
}

// bytesOf are n bytes of any kind.
func bytesOf(r *rand.Rand, n int) string {
	b := make([]byte, n)
	for i := range b {
		b[i] = []byte{0, 255, 'a', byte(r.Intn(256))}[r.Intn(4)]
	}
	return string(b)
}

func upTo(most int) func(r *rand.Rand) string {
	return func(r *rand.Rand) string { return bytesOf(r, r.Intn(most+1)) }
}

func kinds() []kind {
	of := func(n int) func(r *rand.Rand) string {
		return func(r *rand.Rand) string {
			s := ""
			for range 1 + r.Intn(n) {
				s += string(rune('a' + r.Intn(2)))
			}
			return s
		}
	}
	long := func(r *rand.Rand) string {
		s := of(9)(r)
		return strings.Repeat("k", 40-len(s)) + s
	}
	edge := func(r *rand.Rand) string {
		return strings.Repeat("v", []int{0, 1, 399, 400}[r.Intn(4)])
	}
	return []kind{
		{"short keys, short values", of(4), upTo(3)},
		{"short keys, any values", of(5), upTo(400)},
		{"short keys, great values", of(6), func(r *rand.Rand) string { return bytesOf(r, 380+r.Intn(21)) }},
		{"long keys, no values", long, func(*rand.Rand) string { return "" }},
		{"long keys, any values", long, upTo(400)},
		{"long keys, the least and the greatest", long, edge},
		{"any bytes", func(r *rand.Rand) string { return bytesOf(r, 1+r.Intn(3)) }, upTo(150)},
		{"any bytes, great", func(r *rand.Rand) string { return bytesOf(r, 1+r.Intn(40)) }, upTo(400)},
		{"keys and what is none", func(r *rand.Rand) string { return bytesOf(r, []int{0, 1, 2, 39, 40, 41, 80}[r.Intn(7)]) }, func(r *rand.Rand) string {
			return bytesOf(r, []int{0, 1, 200, 399, 400, 401, 513, 1000}[r.Intn(8)])
		}},
	}
}

// any makes some call; of ten some more are Cuts than cuts says.
func (g *grove) any(r *rand.Rand, s kind, cuts int) {
	g.t.Helper()
	key := s.key(r)
	if keys := g.keys(); len(keys) > 0 && r.Intn(3) == 0 {
		key = keys[r.Intn(len(keys))]
	}
	switch n := r.Intn(10); {
	case n < cuts:
		g.cut(key)
	case n < 8:
		g.put(key, s.val(r))
	case n == 8:
		g.get(key)
	default:
		g.reach(s.key(r), s.key(r), r.Intn(10))
		g.reach(key, "", r.Intn(10))
		g.reach("", key, r.Intn(len(g.table)+2))
	}
}

// P14.1, P14.2: calls in any order, with keys and values of each kind, while a tree grows and while it goes; pages of any numbers.
func TestAnyOrder(t *testing.T) {
	for i, s := range kinds() {
		t.Run(s.why, func(t *testing.T) {
			for round := range 6 {
				r := rand.New(rand.NewSource(int64(100*i + round)))
				g := newGrove(t)
				switch round % 3 {
				case 1:
					g.p.next = everNew()
				case 2:
					g.p.next = greatFirst()
				}
				for _, cuts := range []int{1, 4, 7, 2, 8} {
					for range 150 {
						g.any(r, s, cuts)
						g.isGone()
					}
					g.holds()
				}
				for _, key := range g.keys() {
					g.cut(key)
				}
				g.isGone()
			}
		})
	}
}

// P14.1: all orders of up to five calls on three keys, with small values and great ones.
func TestEachOrder(t *testing.T) {
	vals := []string{strings.Repeat("v", 200), strings.Repeat("w", 400)}
	var after func(g *grove, left int)
	after = func(g *grove, left int) {
		g.holds()
		g.isGone()
		if left == 0 {
			return
		}
		for _, key := range []string{"b", "ba", "c"} {
			for _, val := range vals {
				x := g.clone()
				x.put(key, val)
				after(x, left-1)
			}
			x := g.clone()
			x.cut(key)
			after(x, left-1)
		}
	}
	left := 5
	if testing.Short() {
		left = 3
	}
	after(newGrove(t), left)
}

// P14.1, P14.2: several trees on one pager have nothing to do with each other.
func TestSideBySide(t *testing.T) {
	for i, s := range kinds() {
		r := rand.New(rand.NewSource(int64(i)))
		p := newPager(t)
		var all []*grove
		for range 4 {
			all = append(all, &grove{t: t, p: p, table: map[string]string{}})
		}
		for _, cuts := range []int{1, 5, 3} {
			for range 300 {
				all[r.Intn(4)].any(r, s, cuts)
			}
			for _, g := range all {
				g.holds()
			}
		}
		for _, at := range r.Perm(4) {
			for _, key := range all[at].keys() {
				all[at].cut(key)
			}
			for _, g := range all {
				g.holds()
			}
		}
		if len(p.pages) != 0 {
			t.Fatalf("%s: %d pages are in use", s.why, len(p.pages))
		}
	}
}

// FuzzTree reads calls out of bytes: what to do, a key's length and first byte, a value's length.
func FuzzTree(f *testing.F) {
	f.Add("")
	f.Add("\x00\x01b\x05\x00\x01a\x05\x05\x01a\x00\x05\x01b\x00")
	f.Add(strings.Repeat("\x00\x28\x00\xff\x01\x01\x10\x80\x02\x05\x20\xff", 20))
	f.Fuzz(func(t *testing.T, s string) {
		g := newGrove(t)
		for ; len(s) >= 4; s = s[4:] {
			size := int(s[1]) % 42
			key := strings.Repeat(s[2:3], size/2) + strings.Repeat("k", size-size/2)
			val := strings.Repeat("v", 2*int(s[3]))
			switch s[0] % 8 {
			case 5, 6:
				g.cut(key)
			case 7:
				g.reach(key, s[3:4], int(s[3]))
			default:
				g.put(key, val)
			}
			g.get(key)
			g.isGone()
		}
		g.holds()
		for _, key := range g.keys() {
			g.cut(key)
		}
		g.isGone()
	})
}
