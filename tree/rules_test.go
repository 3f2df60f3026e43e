package tree_test

import (
	"fmt"
	"maps"
	"math/rand"
	"slices"
	"strings"
	"sync"
	"testing"

	"tambour/api"
	"tambour/tree"
)

// R4: a list that was answered is the caller's: what is done to it changes neither the tree nor another answer.
func TestListsApart(t *testing.T) {
	g := grown(t, numbered(60, 10), 90)
	for _, n := range []int{1, 20, 60} {
		first, e := tree.Range(g.p, g.root, "", "", n)
		if e != nil {
			t.Fatal(e)
		}
		second, _ := tree.Range(g.p, g.root, "", "", n)
		was := slices.Clone(second)
		for i := range first {
			first[i] = api.Pair{Key: "other", Val: "other"}
		}
		_ = append(first, first...)
		if !slices.Equal(second, was) {
			t.Errorf("of %d: an answer has changed", n)
		}
		g.reach("", "", n)
	}
	g.holds()
}

// R4: what was answered stays, whatever later calls do; and what was handed in isn't kept as somebody's memory.
func TestAnswersStay(t *testing.T) {
	r := rand.New(rand.NewSource(4))
	for _, s := range kinds() {
		g := newGrove(t)
		var lists, copies [][]api.Pair
		for range 300 {
			key, val := s.key(r), s.val(r)
			handed := []byte(key + val)
			g.put(string(handed[:len(key)]), string(handed[len(key):]))
			for i := range handed {
				handed[i] = 'x'
			}
			g.get(key)
			if r.Intn(2) == 0 {
				g.cut(s.key(r))
			}
			l, e := tree.Range(g.p, g.root, "", "", 30)
			if e != nil {
				t.Fatal(e)
			}
			c := slices.Clone(l)
			for i := range c {
				c[i].Key, c[i].Val = strings.Clone(c[i].Key), strings.Clone(c[i].Val)
			}
			lists, copies = append(lists, l), append(copies, c)
		}
		if !slices.EqualFunc(lists, copies, slices.Equal[[]api.Pair]) {
			t.Fatalf("%s: an answer has changed", s.why)
		}
	}
}

// R3, R4: Get, Range, and Cut of what isn't there, ask the pages and leave them.
func TestPagesStay(t *testing.T) {
	for _, g := range trees(t) {
		was := maps.Clone(g.p.pages)
		for _, key := range append(noKeys(), "\x00", "b", "k", "z") {
			g.get(key)
			g.reach(key, "", 9)
			g.reach("", key, 9)
		}
		if !maps.Equal(g.p.pages, was) {
			t.Error("the pages have changed")
		}
		for _, key := range append(noKeys(), "\x00", "b", "k", "z") {
			g.cut(key)
		}
		g.holds()
	}
}

// run tells all that some calls answer on a new pager, errors among them.
func run(t testing.TB, seed int64) string {
	r := rand.New(rand.NewSource(seed))
	p := newPager(t)
	root := 0
	var out strings.Builder
	s := kinds()[int(seed)%len(kinds())]
	for range 200 {
		key, val := s.key(r), s.val(r)
		switch r.Intn(4) {
		case 0:
			x, had, e := tree.Cut(p, root, key)
			fmt.Fprintln(&out, x, had, numberOf(e))
			if e == nil {
				root = x
			}
		case 1:
			v, has, e := tree.Get(p, root, key)
			l, f := tree.Range(p, root, key, s.key(r), r.Intn(9))
			fmt.Fprintf(&out, "%q %t %d %q %d\n", v, has, numberOf(e), l, numberOf(f))
		default:
			x, e := tree.Put(p, root, key, val)
			fmt.Fprintln(&out, x, numberOf(e))
			if e == nil {
				root = x
			}
		}
	}
	for _, n := range slices.Sorted(maps.Keys(p.pages)) {
		fmt.Fprintf(&out, "%d %q\n", n, p.pages[n])
	}
	return out.String()
}

// R7: the same calls answer the same on each new pager, and leave the same pages, also on several pagers at once.
func TestOneAnswer(t *testing.T) {
	var want []string
	for i := range kinds() {
		want = append(want, run(t, int64(i)))
	}
	var all sync.WaitGroup
	for i := range 3 * len(want) {
		all.Go(func() {
			at := i % len(want)
			if run(t, int64(at)) != want[at] {
				t.Error("the same calls, and other answers")
			}
		})
	}
	all.Wait()
}
