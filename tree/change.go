package tree

import (
	"slices"
	"sort"
	"strconv"
)

// change does something to the leaf of a key, and tells the root behind that.
func (w wood) change(root int, key string, do func(leaf *node)) (int, error) {
	top, err := w.top(root)
	if err != nil {
		return 0, err
	}
	if err := w.alter(&top, key, do); err != nil {
		return 0, err
	}
	if !top.changed {
		return root, nil
	}
	return w.plant(top)
}

// alter leaves n itself to whoever has the node above: that one knows what stands beside it.
func (w wood) alter(n *node, key string, do func(leaf *node)) error {
	if n.height == 0 {
		do(n)
		return nil
	}
	at := n.under(key)
	child, err := w.child(*n, at)
	if err != nil {
		return err
	}
	if err := w.alter(&child, key, do); err != nil || !child.changed {
		return err
	}
	return w.lay(n, at, child)
}

// plant lays the top node, and nodes above it till one page tells all. A top that has one page alone below it goes, so that a tree doesn't stay as tall as it once was.
func (w wood) plant(top node) (int, error) {
	for top.height > 0 && len(top.entries) == 1 {
		below, err := w.child(top, 0)
		if err != nil {
			return 0, err
		}
		if err := w.pager.Free(top.page); err != nil {
			return 0, err
		}
		top = below
	}
	for {
		above := node{height: top.height + 1, entries: []entry{{text: strconv.Itoa(top.page)}}}
		if err := w.lay(&above, 0, top); err != nil {
			return 0, err
		}
		switch len(above.entries) {
		case 0:
			return 0, nil
		case 1:
			return above.pageAt(0), nil
		}
		top = above
	}
}

// lay puts the child at that place of n on as many pages as it needs. Where it has become less, or has come apart, it is put together with what stands beside it, if one page has room for both: so no two pages side by side could be one.
func (w wood) lay(n *node, at int, child node) error {
	from, to, parts := at, at+1, child.split()
	if len(parts) > 1 || child.size() < child.was {
		if at > 0 {
			left, err := w.child(*n, at-1)
			if err != nil {
				return err
			}
			from, parts = at-1, slices.Insert(parts, 0, left)
		}
		if to < len(n.entries) {
			right, err := w.child(*n, to)
			if err != nil {
				return err
			}
			to, parts = to+1, append(parts, right)
		}
	}
	told, err := w.write(joined(parts))
	if err != nil {
		return err
	}
	n.changed = n.changed || !slices.Equal(n.entries[from:to], told)
	n.entries = slices.Replace(n.entries, from, to, told...)
	return nil
}

// joined puts parts side by side together where a page has room for both, and tells the pages that are spare then.
func joined(parts []node) ([]node, []int) {
	out, spare := parts[:1:1], []int(nil)
	for _, right := range parts[1:] {
		last := len(out) - 1
		both, left := join(out[last], right)
		if both.size() > room {
			out = append(out, right)
			continue
		}
		out[last] = both
		if left > 0 {
			spare = append(spare, left)
		}
	}
	if len(out[0].entries) == 0 {
		return nil, append(spare, out[0].page)
	}
	return out, spare
}

// join is a and b, which stands behind it, as one, and the page that is left over. Where one of them is empty the other one's page needn't be laid anew.
func join(a, b node) (node, int) {
	if len(b.entries) == 0 {
		return a, b.page
	}
	if len(a.entries) == 0 {
		b.low = a.low
		return b, a.page
	}
	left := b.page
	if a.page == 0 {
		a.page, left = b.page, 0
	}
	a.entries = slices.Concat(a.entries, b.entries)
	a.changed = true
	return a, left
}

// split parts what has no room on one page; the first part keeps the page.
func (n node) split() []node {
	if n.size() <= room {
		return []node{n}
	}
	var parts []node
	for _, l := range even(n.entries) {
		parts = append(parts, node{height: n.height, low: l[0].key, entries: l, changed: true})
	}
	parts[0].page, parts[0].low = n.page, n.low
	return parts
}

// even parts the entries into as few lists as fill pages, and of these ways it takes the one whose greatest list is least.
func even(l []entry) [][]entry {
	fewest := len(fill(l, room))
	return fill(l, sort.Search(room, func(limit int) bool { return len(fill(l, limit)) <= fewest }))
}

// fill goes on to the next list where the limit would be passed; an entry that is greater has one alone.
func fill(l []entry, limit int) [][]entry {
	var out [][]entry
	size := 0
	for i, e := range l {
		size += e.size()
		if i == 0 || size > limit {
			out, size = append(out, nil), e.size()
		}
		out[len(out)-1] = append(out[len(out)-1], e)
	}
	return out
}
