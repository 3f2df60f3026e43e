package redo_test

import (
	"crypto/sha256"
	"fmt"
	"math"
	"slices"
	"strconv"
	"strings"
	"testing"

	"tambour/api"
	"tambour/redo"
	"tambour/sector"
)

// logged is a disk of n sectors with a head, some data in the log behind it, and bytes on each other sector.
func logged(t testing.TB, n int, head string, data ...string) *sector.Disk {
	t.Helper()
	d := disk(t, n)
	for i := range n {
		s := "sector " + strconv.Itoa(i)
		if i == 0 {
			s = head
		} else if i <= len(data) {
			s = data[i-1]
		}
		if e := d.Write(i, s); e != nil {
			t.Fatal(e)
		}
	}
	if e := d.Flush(); e != nil {
		t.Fatal(e)
	}
	return d
}

// some are n sectors' bytes.
func some(n int) []string {
	var out []string
	for i := range n {
		out = append(out, whole(strings.Repeat(string(rune('a'+i%26)), 1+i*7%512)))
	}
	return out
}

// counts holds that an Open writes those pages, and nothing else but an empty head.
func counts(t *testing.T, why string, d *sector.Disk, want map[int]string) {
	t.Helper()
	all := sectorsOf(t, d)
	d.Fuel(len(want) + 3)
	r, e := redo.Open(d)
	if r == nil || e != nil || d.Off() || d.Pending() != 0 {
		t.Errorf("%s: Open: %v, %v, Off %v", why, r, e, d.Off())
		return
	}
	for page, s := range want {
		all[64+page] = whole(s)
		if got, e := r.Read(page); got != whole(s) || e != nil {
			t.Errorf("%s: Read(%d) = %q, %v", why, page, got, e)
		}
	}
	all[0] = whole("")
	got := sectorsOf(t, d)
	if got[0] == whole(emptyList()) {
		got[0] = whole("")
	}
	if !slices.Equal(got, all) {
		t.Errorf("%s: another sector has changed", why)
	}
	if e := d.Write(64, ""); numberOf(e) != api.ErrOff {
		t.Errorf("%s: fewer steps than are told", why)
	}
}

// empty holds that an Open opens without a step.
func empty(t *testing.T, why string, d *sector.Disk) {
	t.Helper()
	all := sectorsOf(t, d)
	d.Fuel(0)
	r, e := redo.Open(d)
	if r == nil || e != nil || d.Off() || d.Pending() != 0 || !slices.Equal(sectorsOf(t, d), all) {
		t.Errorf("%s: Open: %v, %v, Off %v, Pending %d", why, r, e, d.Off(), d.Pending())
	}
}

// neither holds that an Open is ErrDisk, and takes no step.
func neither(t *testing.T, why string, d *sector.Disk) {
	t.Helper()
	all := sectorsOf(t, d)
	d.Fuel(0)
	for range 2 {
		if r, e := redo.Open(d); r != nil || numberOf(e) != api.ErrDisk || d.Off() || d.Pending() != 0 || !slices.Equal(sectorsOf(t, d), all) {
			t.Errorf("%s: Open: %v, %v, Off %v, Pending %d", why, r, e, d.Off(), d.Pending())
		}
	}
}

// P13.1: heads that count, of each number of pages, in any order, near both ends of disks of unlike sizes.
func TestHeadCounts(t *testing.T) {
	for k := 1; k <= 63; k++ {
		for _, n := range []int{65, 127, 128, 200, 4096} {
			if k > n-64 {
				continue
			}
			data := some(k)
			var up, down []int
			ups, downs := map[int]string{}, map[int]string{}
			for i := range k {
				up, down = append(up, i), append(down, n-65-i)
				ups[i], downs[n-65-i] = data[i], data[i]
			}
			why := fmt.Sprintf("%d pages of %d sectors", k, n)
			counts(t, why, logged(t, n, telling(listOf(up), strings.Join(data, "")), data...), ups)
			if k%9 < 2 {
				counts(t, why+", falling", logged(t, n, telling(listOf(down), strings.Join(data, "")), data...), downs)
			}
		}
	}
	data := some(3)
	counts(t, "in no order", logged(t, 200, telling("(2:101:73:135)", data[0]+data[1]+data[2]), data...), map[int]string{10: data[0], 7: data[1], 135: data[2]})
	same := []string{whole("a"), whole("a")}
	counts(t, "the same bytes", logged(t, 200, telling("(1:41:3)", same[0]+same[1]), same...), map[int]string{3: "a", 4: "a"})
	zeros := []string{whole(""), whole("")}
	counts(t, "bytes 0", logged(t, 200, telling("(1:41:3)", zeros[0]+zeros[1]), zeros...), map[int]string{3: "", 4: ""})
}

// P13.1: digests with bytes at their ends that a head's own end, or what is behind it, has too.
func TestDigestEnds(t *testing.T) {
	for _, end := range []string{"\x00", ")", "(", ":", ")\x00", "\x00)"} {
		for i := 0; ; i++ {
			data := whole(fmt.Sprint(end, i))
			sum := sha256.Sum256([]byte("(1:3)" + data))
			if strings.HasSuffix(string(sum[:]), end) {
				counts(t, fmt.Sprintf("a digest that ends with %q", end), logged(t, 80, headOf(3, data), data), map[int]string{3: data})
				break
			}
		}
	}
	for i := 0; ; i++ {
		data := whole(fmt.Sprint(i))
		if sum := sha256.Sum256([]byte("(1:3)" + data)); sum[0] == 0 {
			counts(t, "a digest that begins with a byte 0", logged(t, 80, headOf(3, data), data), map[int]string{3: data})
			break
		}
	}
}

// P13.1: empty heads, whatever is in the log: no page is written, and no step is taken.
func TestHeadEmpty(t *testing.T) {
	for _, n := range []int{65, 66, 80, 4096} {
		for _, data := range [][]string{nil, some(1), some(63)} {
			empty(t, "bytes 0", logged(t, n, "", data...))
			empty(t, "no pages told", logged(t, n, emptyList(), data...))
		}
	}
	for why, head := range map[string]string{
		"no pages told, another digest":           "(4:redo()32:" + strings.Repeat("x", 32) + ")",
		"no pages told, no digest":                "(4:redo()0:)",
		"no pages told, two items":                "(4:redo())",
		"no pages told, a digest of nothing":      telling("()", "")[:12] + sum("") + ")",
		"no pages told, with data's digest":       telling("()", whole("a")),
		"no pages told, another text":             "(4:undo()32:" + sum("()") + ")",
		"no pages told, the numbers a text":       "(4:redo0:32:" + sum("0:") + ")",
		"no pages told, the numbers none at all":  "(4:redo32:" + sum("()") + ")",
		"no pages told, a byte 1 behind":          emptyList() + "\x01",
		"no pages told, a byte 1 at the very end": whole(emptyList())[:511] + "\x01",
		"bytes 0 but the last":                    whole("")[:511] + "\x01",
		"bytes 0 but the first":                   "\x01",
		"an empty list":                           "()",
		"an empty text":                           "0:",
		"the text redo":                           "4:redo",
	} {
		neither(t, why, logged(t, 80, head, whole("a")))
	}
}

// sum is a digest.
func sum(s string) string {
	b := sha256.Sum256([]byte(s))
	return string(b[:])
}

// P13.1, R2, R3: heads that are neither empty nor count, by their form.
func TestHeadNeither(t *testing.T) {
	a, b := whole("a"), whole("b")
	told := sum("(1:21:5)" + a + b)
	head := "(4:redo(1:21:5)32:" + told + ")"
	counts(t, "as it is to be", logged(t, 80, head, a, b), map[int]string{2: "a", 5: "b"})
	for why, s := range map[string]string{
		"junk":                              "junk",
		"512 bytes of junk":                 strings.Repeat("junk", 128),
		"bytes of no UTF-8":                 strings.Repeat("\xff", 512),
		"blanks":                            strings.Repeat(" ", 512),
		"a byte 0 ahead":                    "\x00" + head,
		"a blank ahead":                     " " + head,
		"a byte 10 behind":                  head + "\n",
		"a blank behind":                    head + " ",
		"a bracket behind":                  head + ")",
		"a byte 0 and another behind":       head + "\x00x",
		"a form behind":                     head + "0:",
		"itself behind":                     head + head,
		"an empty list behind":              head + emptyList(),
		"the last byte is 1":                whole(head)[:511] + "\x01",
		"the last byte is a bracket":        whole(head)[:511] + ")",
		"the bracket at its end is missing": head[:len(head)-1],
		"the digest is missing":             "(4:redo(1:21:5))",
		"the numbers are missing":           "(4:redo32:" + told + ")",
		"the word is missing":               "((1:21:5)32:" + told + ")",
		"the list is missing":               "4:redo(1:21:5)32:" + told,
		"in one more list":                  "(" + head + ")",
		"an item more":                      head[:len(head)-1] + "0:)",
		"an empty list more":                head[:len(head)-1] + "())",
		"an item more ahead":                "(0:" + head[1:],
		"the items turned about":            "(4:redo32:" + told + "(1:21:5))",
		"another text":                      "(4:undo(1:21:5)32:" + told + ")",
		"another text, Redo":                "(4:Redo(1:21:5)32:" + told + ")",
		"a longer text":                     "(5:redo!(1:21:5)32:" + told + ")",
		"a shorter text":                    "(3:red(1:21:5)32:" + told + ")",
		"an empty text":                     "(0:(1:21:5)32:" + told + ")",
		"a list with the text":              "((4:redo)(1:21:5)32:" + told + ")",
		"a zero ahead of its length":        "(04:redo(1:21:5)32:" + told + ")",
		"the text tambour":                  "(7:tambour(1:21:5)32:" + told + ")",
		"a list with the digest":            "(4:redo(1:21:5)(32:" + told + "))",
		"an empty digest":                   "(4:redo(1:21:5)0:)",
		"a digest of a byte less":           "(4:redo(1:21:5)31:" + told[:31] + ")",
		"a digest of a byte more":           "(4:redo(1:21:5)33:" + told + "\x00)",
		"the digest twice":                  "(4:redo(1:21:5)64:" + told + told + ")",
		"the digest in digits":              "(4:redo(1:21:5)64:" + fmt.Sprintf("%x", told) + ")",
		"a digest of bytes 0":               "(4:redo(1:21:5)32:" + strings.Repeat("\x00", 32) + ")",
		"a digest without the numbers":      "(4:redo(1:21:5)32:" + sum(a+b) + ")",
		"a digest of the numbers alone":     "(4:redo(1:21:5)32:" + sum("(1:21:5)") + ")",
		"a digest with the numbers behind":  "(4:redo(1:21:5)32:" + sum(a+b+"(1:21:5)") + ")",
		"a digest without the brackets":     "(4:redo(1:21:5)32:" + sum("1:21:5"+a+b) + ")",
		"a digest without the bytes 0":      "(4:redo(1:21:5)32:" + sum("(1:21:5)ab") + ")",
		"a digest of one sector":            "(4:redo(1:21:5)32:" + sum("(1:21:5)"+a) + ")",
		"a digest of three sectors":         "(4:redo(1:21:5)32:" + sum("(1:21:5)"+a+b+whole("sector 3")) + ")",
		"a digest of sectors turned about":  "(4:redo(1:21:5)32:" + sum("(1:21:5)"+b+a) + ")",
		"a digest of other numbers":         "(4:redo(1:21:6)32:" + told + ")",
		"a digest of numbers turned about":  "(4:redo(1:51:2)32:" + told + ")",
		"a digest of fewer numbers":         "(4:redo(1:2)32:" + told + ")",
	} {
		neither(t, why, logged(t, 80, s, a, b))
	}
}

// P13.1, R6: heads whose digests are right, with numbers that aren't Nums of pages, or are told twice, or too many.
func TestHeadNumbers(t *testing.T) {
	for why, list := range map[string]string{
		"a page below 0":           "(2:-1)",
		"far below 0":              fmt.Sprintf("(20:%d)", math.MinInt),
		"64 below 0":               "(3:-64)",
		"Pages":                    "(2:16)",
		"one more":                 "(2:17)",
		"the disk's sectors":       "(2:80)",
		"its last sector":          "(2:79)",
		"the greatest":             fmt.Sprintf("(19:%d)", math.MaxInt),
		"beyond the greatest":      "(19:9223372036854775808)",
		"that wraps round":         "(20:18446744073709551618)",
		"that wraps round at 32":   "(10:4294967298)",
		"no page behind":           "(1:22:16)",
		"no page ahead":            "(2:161:2)",
		"a zero ahead":             "(2:02)",
		"a zero ahead of the size": "(01:2)",
		"a plus":                   "(2:+2)",
		"minus 0":                  "(2:-0)",
		"two zeros":                "(2:00)",
		"a blank":                  "(2: 2)",
		"a byte 0 behind":          "(2:2\x00)",
		"base 16":                  "(3:0x2)",
		"a low line":               "(3:1_0)",
		"no number":                "(1:x)",
		"an empty text":            "(0:)",
		"a list":                   "(())",
		"a number in a list":       "((1:2))",
		"a list behind":            "(1:2())",
		"told twice":               "(1:21:2)",
		"told twice, apart":        "(1:21:31:41:2)",
		"three times":              "(1:21:21:2)",
		"no list":                  "1:2",
		"too deep":                 strings.Repeat("(", 8) + strings.Repeat(")", 8),
	} {
		for _, a := range []string{"a", ""} {
			data := []string{whole(a), whole(a), whole(a), whole(a)}
			for k := range 5 {
				neither(t, why, logged(t, 80, telling(list, strings.Join(data[:k], "")), data...))
			}
		}
	}
	for _, k := range []int{64, 65, 70, 100, 115} {
		var numbers []int
		for i := range k {
			numbers = append(numbers, i)
		}
		list := listOf(numbers)
		for _, of := range []int{0, 1, 63, k - 1, k} {
			d := logged(t, 200, "", some(k)...)
			data := strings.Join(sectorsOf(t, d)[1:1+of], "")
			head := telling(list, data)
			if len(head) > 512 {
				t.Fatalf("%d pages: %d bytes", k, len(head))
			}
			lay(t, d, 0, head)
			neither(t, fmt.Sprintf("%d pages, data of %d", k, of), d)
		}
	}
	full := make([]int, 64)
	for i := range full {
		full[i] = i % 63
	}
	data := some(64)
	neither(t, "63 pages, one of them twice", logged(t, 200, telling(listOf(full), strings.Join(data, "")), data...))
}

// P13.1: a page's number counts or doesn't as the disk has that page.
func TestHeadOnDisks(t *testing.T) {
	a := whole("a")
	for n := 65; n < 90; n++ {
		for page := range 30 {
			d := logged(t, n, headOf(page, a), a)
			if page < n-64 {
				counts(t, fmt.Sprintf("page %d of %d", page, n-64), d, map[int]string{page: a})
			} else {
				neither(t, fmt.Sprintf("page %d of %d", page, n-64), d)
			}
		}
	}
	counts(t, "the last page of all", logged(t, 4096, headOf(4031, a), a), map[int]string{4031: a})
	neither(t, "one more", logged(t, 4096, headOf(4032, a), a))
}

// P13.1: each byte of a head that counts, and of the log that it tells, made another one: then it is neither; the rest of the log is nothing to it.
func TestEachByte(t *testing.T) {
	data := []string{whole("a"), whole(strings.Repeat("b", 512))}
	head := whole(headOf(2, data...))
	turned := func(s string, at int, by byte) string {
		b := []byte(s)
		b[at] ^= by
		return string(b)
	}
	for at := range 512 {
		for _, by := range []byte{1, 2, 0x10, 0x20, 0x80, 0xff, head[at], head[at] ^ '0', head[at] ^ ')'} {
			if by != 0 {
				neither(t, fmt.Sprintf("byte %d of the head", at), logged(t, 80, turned(head, at, by), data...))
			}
		}
		neither(t, fmt.Sprintf("byte %d of sector 1", at), logged(t, 80, head, turned(data[0], at, 1), data[1]))
		neither(t, fmt.Sprintf("byte %d of sector 2", at), logged(t, 80, head, data[0], turned(data[1], at, 0x80)))
		counts(t, fmt.Sprintf("byte %d of sector 3", at), logged(t, 80, head, data[0], data[1], turned(data[0], at, 1)), map[int]string{2: data[0], 3: data[1]})
	}
	for at := range head {
		s := strings.TrimRight(head, "\x00")
		if at < len(s) {
			neither(t, fmt.Sprintf("without byte %d", at), logged(t, 80, s[:at]+s[at+1:], data...))
			neither(t, fmt.Sprintf("up to byte %d", at), logged(t, 80, s[:at]+"\x01", data...))
		}
	}
}
