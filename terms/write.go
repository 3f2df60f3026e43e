package terms

import (
	"strconv"

	"tambour/api"
)

// Write asks the whole of f only where writing has failed: what is no form anywhere goes ahead of what is too much.
func Write(f api.Form) (string, error) {
	var w writer
	if w.form(f, 0) {
		return string(w.out), nil
	}
	if !sound(f) {
		return "", api.ErrArg
	}
	return "", api.ErrBig
}

// writer never has more than MaxForm bytes, however great what it writes.
type writer struct {
	out []byte
}

// form says whether f was written; deep counts the lists around it.
func (w *writer) form(f api.Form, deep int) bool {
	if !right(f) {
		return false
	}
	if !f.List {
		return w.put(strconv.Itoa(len(f.Text))) && w.put(":") && w.put(f.Text)
	}
	if deep == api.MaxDeep || !w.put("(") {
		return false
	}
	for _, item := range f.Items {
		if !w.form(item, deep+1) {
			return false
		}
	}
	return w.put(")")
}

func (w *writer) put(s string) bool {
	if len(s) > api.MaxForm-len(w.out) {
		return false
	}
	w.out = append(w.out, s...)
	return true
}

// right asks f alone, not its items.
func right(f api.Form) bool {
	if f.List {
		return f.Text == ""
	}
	return len(f.Items) == 0
}

// sound asks f and all its items, however deep. It keeps what is to be asked in a list, as calls can't go so deep, and how much of each list was taken up, as one list may stand in a form so often, or in itself, that asking it each time would never end.
func sound(f api.Form) bool {
	taken := map[*api.Form]int{}
	todo := [][]api.Form{{f}}
	for len(todo) > 0 {
		l := todo[len(todo)-1]
		todo = todo[:len(todo)-1]
		for _, item := range l {
			if !right(item) {
				return false
			}
			if len(item.Items) == 0 {
				continue
			}
			first := &item.Items[0]
			if done := taken[first]; done < len(item.Items) {
				todo = append(todo, item.Items[done:])
				taken[first] = len(item.Items)
			}
		}
	}
	return true
}
