package tree

import "tambour/api"

func (w wood) find(root int, key string) (found, error) {
	n, err := w.top(root)
	for err == nil && n.height > 0 {
		n, err = w.child(n, n.under(key))
	}
	if err != nil {
		return found{}, err
	}
	at, is := n.seek(key)
	if !is {
		return found{}, nil
	}
	return found{val: n.entries[at].text, has: true}, nil
}

// reach is a Range under way.
type reach struct {
	wood
	from, to string
	limit    int
	pairs    []api.Pair
}

// walk comes to no page, if nothing of it is asked for.
func (r *reach) walk(root int) error {
	if r.limit < 1 {
		return nil
	}
	n, err := r.top(root)
	if err != nil {
		return err
	}
	return r.gather(n)
}

func (r *reach) gather(n node) error {
	if n.height == 0 {
		r.take(n)
		return nil
	}
	for at := n.under(r.from); at < len(n.entries) && r.wants(n.entries[at].key); at++ {
		child, err := r.child(n, at)
		if err != nil {
			return err
		}
		if err := r.gather(child); err != nil {
			return err
		}
	}
	return nil
}

func (r *reach) take(leaf node) {
	at, _ := leaf.seek(r.from)
	for _, e := range leaf.entries[at:] {
		if !r.wants(e.key) {
			return
		}
		r.pairs = append(r.pairs, api.Pair{Key: e.key, Val: e.text})
	}
}

func (r *reach) wants(key string) bool {
	return len(r.pairs) < r.limit && (r.to == "" || key < r.to)
}
