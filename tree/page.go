package tree

import (
	"slices"

	"tambour/api"
)

// A page has a check, its node's height (a byte), how many entries there are (a byte), these, and bytes 0 up to api.Sector, so that a pager on sectors needs to keep no length. An entry has the length of its key (a byte), that of its text (two), the key and the text.
const (
	checked = 8
	head    = checked + 2
	lengths = 3
	room    = api.Sector - head
)

// bytesOf is what stands on the node's page.
func bytesOf(n node) string {
	body := []byte{byte(n.height), byte(len(n.entries))}
	for i, e := range n.entries {
		if n.height > 0 && i == 0 {
			e.key = ""
		}
		body = append(body, byte(len(e.key)), byte(len(e.text)>>8), byte(len(e.text)))
		body = append(body, e.key...)
		body = append(body, e.text...)
	}
	body = append(body, make([]byte, api.Sector-checked-len(body))...)
	return string(slices.Concat(check(n.page, body), body))
}

// nodeOf reads a page; false, if its node has other bytes.
func nodeOf(page int, s string) (node, bool) {
	if len(s) != api.Sector {
		return node{}, false
	}
	n := node{page: page, height: int(s[checked])}
	rest := s[head:]
	for range s[checked+1] {
		e, behind, ok := firstOf(rest)
		if !ok {
			return node{}, false
		}
		n.entries = append(n.entries, e)
		rest = behind
	}
	return n, bytesOf(n) == s
}

// firstOf is the entry that stands first, and what stands behind it.
func firstOf(s string) (entry, string, bool) {
	if len(s) < lengths {
		return entry{}, "", false
	}
	text := lengths + int(s[0])
	end := text + int(s[1])<<8 + int(s[2])
	if end > len(s) {
		return entry{}, "", false
	}
	return entry{key: s[lengths:text], text: s[text:end]}, s[end:], true
}

// check hangs on the page's number too, so that what was laid on one page doesn't count on another. Each byte's step can be turned back (FNV-1a, of 64 bits), so that no page with one byte turned has the same.
func check(page int, body []byte) []byte {
	sum := uint64(14695981039346656037)
	for _, b := range slices.Concat(bytesOfNumber(uint64(page)), body) {
		sum = (sum ^ uint64(b)) * 1099511628211
	}
	return bytesOfNumber(sum)
}

func bytesOfNumber(n uint64) []byte {
	out := make([]byte, checked)
	for i := range out {
		out[i] = byte(n >> (8 * i))
	}
	return out
}
