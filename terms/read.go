package terms

import (
	"strings"

	"tambour/api"
)

// Read holds the bytes against their limit first, so that all numbers in them stay small.
func Read(s string) (api.Form, error) {
	if len(s) > api.MaxForm {
		return api.Form{}, api.ErrBig
	}
	r := reader{s: s}
	f, ok := r.form(0)
	if !ok || r.at < len(s) {
		return api.Form{}, api.ErrForm
	}
	return f, nil
}

// reader has read s up to at. Where one of its methods answers false there is no form, and at is of no use any more.
type reader struct {
	s  string
	at int
}

// at the end next is a byte that no form begins with, nor goes on with.
func (r *reader) next() byte {
	if r.at == len(r.s) {
		return 0
	}
	return r.s[r.at]
}

// form reads one; deep counts the lists around it.
func (r *reader) form(deep int) (api.Form, bool) {
	switch r.next() {
	case '(':
		return r.list(deep)
	case '0':
		// Only the length of the empty text begins so.
		if !strings.HasPrefix(r.s[r.at:], "0:") {
			return api.Form{}, false
		}
		fallthrough
	case '1', '2', '3', '4', '5', '6', '7', '8', '9':
		return r.text()
	}
	return api.Form{}, false
}

// list goes no deeper than MaxDeep, whatever comes behind, as bytes may open lists for ever.
func (r *reader) list(deep int) (api.Form, bool) {
	if deep == api.MaxDeep {
		return api.Form{}, false
	}
	r.at++
	var items []api.Form
	for r.next() != ')' {
		item, ok := r.form(deep + 1)
		if !ok {
			return api.Form{}, false
		}
		items = append(items, item)
	}
	r.at++
	return api.Form{List: true, Items: items}, true
}

// text holds the length against what is left at each digit, so that no length ever wraps.
func (r *reader) text() (api.Form, bool) {
	size := 0
	for ; '0' <= r.next() && r.next() <= '9'; r.at++ {
		size = 10*size + int(r.next()-'0')
		if size > len(r.s)-r.at {
			return api.Form{}, false
		}
	}
	if r.next() != ':' {
		return api.Form{}, false
	}
	r.at++
	if size > len(r.s)-r.at {
		return api.Form{}, false
	}
	r.at += size
	return Text(r.s[r.at-size : r.at]), true
}
