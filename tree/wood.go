package tree

import (
	"strconv"

	"tambour/api"
)

// wood is a pager's pages, with what comes and goes between them and nodes.
type wood struct {
	pager Pager
}

// top is the node at the root; of no tree a leaf without keys, that has no page yet.
func (w wood) top(root int) (node, error) {
	if root == 0 {
		return node{}, nil
	}
	return w.load(node{page: root})
}

// child is the node that the entry there tells.
func (w wood) child(n node, at int) (node, error) {
	want := node{page: n.pageAt(at), low: n.entries[at].key, high: n.high}
	if at+1 < len(n.entries) {
		want.high = n.entries[at+1].key
	}
	child, err := w.load(want)
	if err != nil {
		return node{}, err
	}
	if child.height != n.height-1 {
		return node{}, api.ErrDisk
	}
	return child, nil
}

// load reads the page of the node that is wanted.
func (w wood) load(want node) (node, error) {
	s, err := w.pager.Get(want.page)
	if err != nil {
		return node{}, err
	}
	n, ok := nodeOf(want.page, s)
	if !ok {
		return node{}, api.ErrDisk
	}
	n.low, n.high = want.low, want.high
	if n.height > 0 && len(n.entries) > 0 {
		n.entries[0].key = n.low
	}
	if !n.sound() {
		return node{}, api.ErrDisk
	}
	n.was = n.size()
	return n, nil
}

// page takes one that is spare, ahead of a new one. A pager whose number isn't from 1 on isn't believed: a tree on it would be lost.
func (w wood) page(spare *[]int) (int, error) {
	if l := *spare; len(l) > 0 {
		*spare = l[1:]
		return l[0], nil
	}
	page, err := w.pager.New()
	if err == nil && page < 1 {
		err = api.ErrDisk
	}
	return page, err
}

// write lays what has changed, ends the use of the pages that are spare still, and tells the entries of the node above.
func (w wood) write(parts []node, spare []int) ([]entry, error) {
	var told []entry
	for _, n := range parts {
		if n.page == 0 {
			page, err := w.page(&spare)
			if err != nil {
				return nil, err
			}
			n.page = page
		}
		if n.changed {
			if err := w.pager.Put(n.page, bytesOf(n)); err != nil {
				return nil, err
			}
		}
		told = append(told, entry{key: n.low, text: strconv.Itoa(n.page)})
	}
	for _, page := range spare {
		if err := w.pager.Free(page); err != nil {
			return nil, err
		}
	}
	return told, nil
}

// pageAt reads what sound has looked at, or write has told.
func (n node) pageAt(at int) int {
	page, _ := strconv.Atoi(n.entries[at].text)
	return page
}
