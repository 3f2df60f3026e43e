// Package lines: see shared/doc/01-lines.md.
package lines

import (
	"strings"

	"tambour/api"
)

const (
	opening = ">>>>>>>"
	parting = "======="
	closing = "<<<<<<<"
)

// Split keeps the empty line behind a byte 10 at the end, so that Join finds that byte again.
func Split(s string) []string {
	return strings.Split(s, "\n")
}

// Join adds no byte 10 at the end: Split has told that as a line of its own.
func Join(l []string) string {
	return strings.Join(l, "\n")
}

// Marker asks for the beginning alone, since a conflict's kind stands behind it.
func Marker(line string) bool {
	if len(line) < len(opening) {
		return false
	}
	switch line[:len(opening)] {
	case opening:
		fallthrough
	case parting:
		fallthrough
	case closing:
		return true
	}
	return false
}

// Check holds the bytes against their limit first, so that no more than MaxFile of them are ever parted.
func Check(s string) error {
	if len(s) > api.MaxFile {
		return api.ErrBig
	}
	all := Split(s)
	if len(all) > api.MaxLines {
		return api.ErrBig
	}
	for _, line := range all {
		if len(line) > api.MaxLine {
			return api.ErrBig
		}
	}
	return nil
}
