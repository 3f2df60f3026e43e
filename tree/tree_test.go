package tree_test

import (
	"fmt"
	"math"
	"math/rand"
	"slices"
	"strings"
	"testing"

	"tambour/api"
	"tambour/tree"
)

// edgeKeys are keys at the limits of what one is, rising.
func edgeKeys() []string {
	return []string{"\x00", "\x00\x00", strings.Repeat("\x00", 40), "\x00\xff", "a", "a\x00", "ab", strings.Repeat("k", 40), "\xff", strings.Repeat("\xff", 40)}
}

// edgeVals are values at the limits of what one is.
func edgeVals() []string {
	all := ""
	for b := range 256 {
		all += string([]byte{byte(b)})
	}
	return []string{"", "\x00", "\xff", "v", strings.Repeat("v", 399), strings.Repeat("v", 400), strings.Repeat("\x00", 400), strings.Repeat("\xff", 400), all}
}

// noKeys are none, and noVals too.
func noKeys() []string {
	return []string{"", strings.Repeat("k", 41), strings.Repeat("k", 42), strings.Repeat("\x00", 256), strings.Repeat("k", 257), strings.Repeat("\xff", 512), strings.Repeat("k", 65537)}
}

func noVals() []string {
	return []string{strings.Repeat("v", 401), strings.Repeat("v", 402), strings.Repeat("\x00", 512), strings.Repeat("v", 513), strings.Repeat("v", 65536), strings.Repeat("v", 65537)}
}

// numbered are n keys that rise, of so many bytes each.
func numbered(n, size int) []string {
	var out []string
	for i := range n {
		s := fmt.Sprintf("%04d", i)
		out = append(out, strings.Repeat("k", size-len(s))+s)
	}
	return out
}

// shuffled are the same keys in some order.
func shuffled(keys []string, seed int64) []string {
	out := slices.Clone(keys)
	rand.New(rand.NewSource(seed)).Shuffle(len(out), func(i, j int) { out[i], out[j] = out[j], out[i] })
	return out
}

// grown is a tree of these keys, each with a value of its own that has so many bytes.
func grown(t testing.TB, keys []string, size int) *grove {
	t.Helper()
	g := newGrove(t)
	for i, key := range keys {
		g.put(key, strings.Repeat(string(rune('a'+i%26)), size))
	}
	return g
}

// P14.1, P14.2: of no tree there is nothing, and no page is come to or used.
func TestNoTree(t *testing.T) {
	g := newGrove(t)
	for _, key := range slices.Concat(edgeKeys(), noKeys()) {
		g.get(key)
		g.cut(key)
		for _, limit := range []int{math.MinInt, -1, 0, 1, 9, math.MaxInt} {
			g.reach("", "", limit)
			g.reach(key, "", limit)
			g.reach("", key, limit)
			g.reach(key, "b", limit)
			g.reach("b", key, limit)
		}
	}
	g.isGone()
}

// P14.1: the chapter's example.
func TestExample(t *testing.T) {
	g := newGrove(t)
	g.put("b", "2")
	g.put("a", "1")
	l, e := tree.Range(g.p, g.root, "", "", 9)
	if e != nil || !slices.Equal(l, []api.Pair{{Key: "a", Val: "1"}, {Key: "b", Val: "2"}}) {
		t.Errorf("Range: %v, %v", l, e)
	}
	g.cut("a")
	g.cut("b")
	if g.root != 0 || len(g.p.pages) != 0 {
		t.Errorf("root %d, %d pages", g.root, len(g.p.pages))
	}
}

// P14.1: one key, with each value.
func TestOneKey(t *testing.T) {
	for _, key := range edgeKeys() {
		for _, val := range edgeVals() {
			g := newGrove(t)
			g.put(key, val)
			for _, other := range slices.Concat(edgeKeys(), noKeys()) {
				g.get(other)
				for limit := range 3 {
					g.reach(other, "", limit)
					g.reach("", other, limit)
					g.reach(other, key, limit)
					g.reach(key, other, limit)
				}
				if other != key {
					g.cut(other)
				}
			}
			g.holds()
			g.cut(key)
			g.isGone()
		}
	}
}

// P14.1: two keys, either one first, with each two values; either one cut first.
func TestTwoKeys(t *testing.T) {
	for _, first := range edgeKeys() {
		for _, second := range edgeKeys() {
			for _, val := range edgeVals() {
				for _, other := range []string{"", "w", strings.Repeat("w", 250), strings.Repeat("w", 400)} {
					g := newGrove(t)
					g.put(first, val)
					g.put(second, other)
					g.holds()
					x := g.clone()
					g.cut(first)
					g.holds()
					g.cut(second)
					g.isGone()
					x.cut(second)
					x.holds()
					x.cut(first)
					x.isGone()
				}
			}
		}
	}
}

// P14.1: keys of which one begins another, in several orders.
func TestBeginnings(t *testing.T) {
	for _, b := range []string{"\x00", "a", "\xff"} {
		var keys []string
		for n := range 40 {
			keys = append(keys, strings.Repeat(b, n+1))
		}
		for size := range 5 {
			for seed := range int64(4) {
				g := grown(t, shuffled(keys, seed), 100*size)
				g.holds()
				for _, key := range keys {
					g.reach(key, "", 3)
					g.reach("", key, 40)
					g.reach(key, strings.Repeat(b, 20), 40)
					g.get(key + "b")
					g.get("b" + key)
				}
				for _, key := range shuffled(keys, seed+9) {
					g.cut(key)
					g.holds()
				}
				g.isGone()
			}
		}
	}
}

// P14.1: as many keys as one page holds, one more, and back again, key by key, of each size.
func TestPageFull(t *testing.T) {
	for _, c := range []struct{ key, val int }{{4, 0}, {4, 1}, {4, 50}, {4, 160}, {4, 240}, {4, 400}, {40, 0}, {40, 60}, {40, 200}, {40, 400}} {
		for seed := range int64(5) {
			keys := numbered(500, c.key)
			switch seed {
			case 0:
			case 1:
				slices.Reverse(keys)
			default:
				keys = shuffled(keys, seed)
			}
			g := newGrove(t)
			for i := 0; len(g.p.pages) <= 1 && i < len(keys); i++ {
				g.put(keys[i], strings.Repeat("v", c.val))
				g.holds()
			}
			if len(g.p.pages) <= 1 {
				t.Errorf("%d keys of %d bytes on one page", len(g.table), c.key)
			}
			for _, key := range keys {
				if _, is := g.table[key]; is {
					x := g.clone()
					x.cut(key)
					x.holds()
					x.put(key, "")
					x.put(key, strings.Repeat("w", 400))
					x.holds()
				}
			}
			for _, key := range shuffled(g.keys(), seed) {
				g.cut(key)
				g.holds()
				g.isGone()
			}
		}
	}
}

// P14.1: many pages deep, laid in each order and cut in each order; behind that there is nothing.
func TestDeep(t *testing.T) {
	for _, c := range []struct{ n, key, val int }{{400, 40, 400}, {400, 40, 0}, {500, 4, 100}, {250, 5, 333}} {
		keys := numbered(c.n, c.key)
		falling := slices.Clone(keys)
		slices.Reverse(falling)
		for _, laid := range [][]string{keys, falling, shuffled(keys, 1)} {
			full := grown(t, laid, c.val)
			full.holds()
			for at, gone := range [][]string{keys, falling, shuffled(keys, 2), slices.Concat(falling[c.n/2:], keys[c.n/2:]), slices.Concat(keys[c.n/2:], falling[c.n/2:]), everyThird(keys)} {
				g := full.clone()
				for i, key := range gone {
					g.cut(key)
					g.get(key)
					g.cut(key)
					g.isGone()
					if i%50 == at {
						g.holds()
					}
				}
				if len(g.table) != 0 {
					t.Fatal("not all keys were cut")
				}
			}
		}
	}
}

// everyThird are the keys in three turns.
func everyThird(keys []string) []string {
	var out []string
	for turn := range 3 {
		for i := turn; i < len(keys); i += 3 {
			out = append(out, keys[i])
		}
	}
	return out
}

// P14.1: a tree goes on behind its keys were cut, wholly or but for one.
func TestAgain(t *testing.T) {
	keys := numbered(120, 40)
	for left := range 3 {
		g := grown(t, keys, 300)
		for range 3 {
			for _, key := range keys[left:] {
				g.cut(key)
			}
			g.isGone()
			g.holds()
			for _, key := range shuffled(keys, 3) {
				g.put(key, strings.Repeat("w", 350))
			}
			g.holds()
		}
	}
}

// P14.1: a key that is there gets the same value, shorter ones and longer ones; nothing else changes.
func TestPutOver(t *testing.T) {
	for _, n := range []int{1, 2, 3, 40, 300} {
		keys := numbered(n, 12)
		for _, size := range []int{0, 1, 150, 400} {
			g := grown(t, keys, size)
			for _, at := range []int{0, n / 3, n / 2, n - 1} {
				key := keys[at]
				g.put(key, strings.Clone(g.table[key]))
				g.holds()
				for _, other := range []int{0, 1, 200, 399, 400, 399, 200, 1, 0, 400, 0, 400} {
					g.put(key, strings.Repeat("w", other))
					g.reach(key, "", 2)
					g.reach("", key, n)
				}
				g.holds()
			}
			for _, key := range keys {
				g.put(key, strings.Repeat("x", 400))
			}
			g.holds()
			for _, key := range keys {
				g.put(key, "")
			}
			g.holds()
			for _, key := range keys {
				g.cut(key)
			}
			g.isGone()
		}
	}
}

// P14.1: Cut of the first and of the last, over and over, and of keys that aren't there, between.
func TestCutEnds(t *testing.T) {
	for _, size := range []int{0, 120, 400} {
		g := grown(t, shuffled(numbered(200, 8), 5), size)
		for turn := 0; len(g.table) > 0; turn++ {
			keys := g.keys()
			g.cut(keys[0] + "b")
			g.cut("j")
			g.cut("l")
			g.cut(keys[0][:7])
			if turn%2 == 0 {
				g.cut(keys[0])
			} else {
				g.cut(keys[len(keys)-1])
			}
			if turn%20 == 0 {
				g.holds()
			}
		}
		g.isGone()
	}
}

// P14.1: Get and Cut of what is no key: nothing has it, and the tree stays.
func TestWhatIsNoKey(t *testing.T) {
	for _, n := range []int{1, 2, 40, 300} {
		g := grown(t, numbered(n, 40), 90)
		for _, key := range noKeys() {
			root := g.root
			g.get(key)
			g.cut(key)
			if g.root != root {
				t.Errorf("Cut of no key: root %d, was %d", g.root, root)
			}
		}
		g.holds()
	}
}

// P14.1: Range from and to keys that are there and that aren't, with each limit.
func TestRange(t *testing.T) {
	for _, c := range []struct{ n, val int }{{1, 0}, {2, 400}, {3, 10}, {12, 300}, {40, 0}, {60, 390}} {
		var keys []string
		for i := range c.n {
			keys = append(keys, fmt.Sprintf("k%03d", 2*i))
		}
		g := grown(t, shuffled(keys, 8), c.val)
		ends := []string{"", "\x00", "k", "k\xff", "z", strings.Repeat("\xff", 41)}
		for i := range 2*c.n + 2 {
			ends = append(ends, fmt.Sprintf("k%03d", i))
		}
		for _, from := range ends {
			for _, to := range ends {
				all := len(g.within(from, to, math.MaxInt))
				for _, limit := range []int{math.MinInt, -1, 0, 1, all - 1, all, all + 1, math.MaxInt} {
					g.reach(from, to, limit)
				}
			}
		}
	}
}

// P14.1: Range of a deep tree, of each few keys that stand side by side, and of all.
func TestRangeDeep(t *testing.T) {
	keys := numbered(700, 40)
	g := grown(t, shuffled(keys, 6), 40)
	for i := 0; i < len(keys); i += 7 {
		for _, more := range []int{0, 1, 5, 30, 200} {
			g.reach(keys[i], keys[min(i+more, 699)], 1000)
			g.reach(keys[i], "", more)
			g.reach(keys[i]+"b", "", more)
			g.reach("", keys[i], more)
		}
	}
	for _, limit := range []int{699, 700, 701, math.MaxInt} {
		g.reach("", "", limit)
	}
}
