package tree

import (
	"slices"
	"strconv"
	"strings"

	"tambour/api"
)

// tallest is higher than any tree grows of as many keys as the promises hold for.
const tallest = 64

// entry is a key with its value, in a leaf; above the leaves a page's number, with the key from which on it is asked.
type entry struct {
	key, text string
}

// node is what a page holds.
type node struct {
	page      int // 0: none yet
	height    int // of a leaf 0
	low, high string
	entries   []entry // their keys rise from low on, and are ahead of high, if there is one
	was       int     // the size that it was read with
	changed   bool
}

func (e entry) size() int {
	return lengths + len(e.key) + len(e.text)
}

// size leaves out the first key above the leaves: that is low, which the node above tells.
func (n node) size() int {
	sum := 0
	for _, e := range n.entries {
		sum += e.size()
	}
	if n.height > 0 && len(n.entries) > 0 {
		sum -= len(n.entries[0].key)
	}
	return sum
}

// sound says whether the node may stand where it was found. Since the keys of a page lie between two of the page ahead, none can be come to twice.
func (n node) sound() bool {
	if len(n.entries) == 0 || n.height > tallest {
		return false
	}
	for i, e := range n.entries {
		if !n.right(e) || i > 0 && e.key <= n.entries[i-1].key {
			return false
		}
	}
	last := n.entries[len(n.entries)-1]
	return n.entries[0].key >= n.low && (n.high == "" || last.key < n.high)
}

func (n node) right(e entry) bool {
	if n.height == 0 {
		return isKey(e.key) && isValue(e.text)
	}
	page, err := strconv.Atoi(e.text)
	return err == nil && page > 0 && e.text == strconv.Itoa(page) && len(e.key) <= api.MaxKey
}

// seek is where the key stands, or would stand, and whether it does.
func (n node) seek(key string) (int, bool) {
	return slices.BinarySearchFunc(n.entries, key, func(e entry, key string) int {
		return strings.Compare(e.key, key)
	})
}

// under is the place of the page that is asked for the key.
func (n node) under(key string) int {
	at, is := n.seek(key)
	if is {
		return at
	}
	return max(0, at-1)
}

func (n *node) put(key, val string) {
	at, is := n.seek(key)
	if is && n.entries[at].text == val {
		return
	}
	if !is {
		n.entries = slices.Insert(n.entries, at, entry{key: key})
	}
	n.entries[at].text = val
	n.changed = true
}

func (n *node) cut(key string) bool {
	at, is := n.seek(key)
	if is {
		n.entries = slices.Delete(n.entries, at, at+1)
		n.changed = true
	}
	return is
}
