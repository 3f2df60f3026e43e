package sector_test

import (
	"math"
	"strconv"
	"strings"
	"testing"

	"tambour/api"
	"tambour/sector"
)

// play does what a line of words says to a disk of nine sectors, and holds its answers against what they say:
// 3a Write(3, "a"), . Flush(), ~2 Fuel(2), !01 Fall of false and true, each with =20 behind it, if it answers that error;
// 3?a Read(3) is a and bytes 0, 3?=20 it is that error; +2 Pending is 2; on and off.
func play(t *testing.T, script string) *sector.Disk {
	t.Helper()
	d := made(t, 9)
	for place, word := range strings.Fields(script) {
		if why := playWord(d, word); why != "" {
			t.Errorf("%s: word %d, %s: %s", script, place, word, why)
		}
		if d.Size() != 9 {
			t.Errorf("%s: word %d, %s: Size %d", script, place, word, d.Size())
		}
	}
	return d
}

func playWord(d *sector.Disk, word string) string {
	switch {
	case word == "on" || word == "off":
		if d.Off() != (word == "off") {
			return "Off is " + strconv.FormatBool(d.Off())
		}
		return ""
	case word[0] == '+':
		if n := d.Pending(); word != "+"+strconv.Itoa(n) {
			return "Pending is " + strconv.Itoa(n)
		}
		return ""
	case word[0] == '~':
		n, _ := strconv.Atoi(word[1:])
		d.Fuel(n)
		return ""
	case word[0] == '!':
		d.Fall(bits(word[1:]))
		return ""
	}
	call, number, _ := strings.Cut(word, "=")
	want, _ := strconv.Atoi(number)
	if got := playCall(d, call); got != api.Errno(want) {
		return "error " + strconv.Itoa(int(got))
	}
	return ""
}

// playCall is the number of the error that a Flush, a Read or a Write answers; -2 of a Read of other bytes.
func playCall(d *sector.Disk, call string) api.Errno {
	if call == "." {
		return numberOf(d.Flush())
	}
	end := strings.IndexFunc(call, func(r rune) bool { return r != '-' && (r < '0' || r > '9') })
	if end < 0 {
		end = len(call)
	}
	i, _ := strconv.Atoi(call[:end])
	if text, reads := strings.CutPrefix(call[end:], "?"); reads {
		s, e := d.Read(i)
		if e == nil && s != whole(text) || e != nil && s != "" {
			return -2
		}
		return numberOf(e)
	}
	return numberOf(d.Write(i, call[end:]))
}

// P12.1, R2, R6: New of numbers within its range and out of it.
func TestNew(t *testing.T) {
	for _, n := range []int{1, 2, 64, 65, 4095, 4096, api.MaxSectors} {
		d := made(t, n)
		if d.Size() != n || d.Off() || d.Pending() != 0 {
			t.Errorf("New(%d): Size %d, Off %v, Pending %d", n, d.Size(), d.Off(), d.Pending())
		}
		for i := range n {
			if s, e := d.Read(i); s != whole("") || e != nil {
				t.Fatalf("New(%d): Read(%d) = %q, %v", n, i, s, e)
			}
		}
		if s, e := d.Read(n); s != "" || numberOf(e) != api.ErrArg {
			t.Errorf("New(%d): Read(%d) = %q, %v", n, n, s, e)
		}
	}
	for _, n := range []int{0, -1, -2, -4096, 4097, 4098, 65536, 65537, 1 << 31, 1<<32 - 1, 1 << 32, 1<<32 + 1, 1<<32 + 9, -1<<32 + 9, math.MinInt, math.MinInt + 1, math.MaxInt} {
		if d, e := sector.New(n); d != nil || numberOf(e) != api.ErrArg {
			t.Errorf("New(%d): %v, %v", n, d, e)
		}
	}
}

// P12.1, P0: each call of a nil disk, whatever was called ahead.
func TestNil(t *testing.T) {
	var d *sector.Disk
	for range 2 {
		for _, n := range []int{math.MinInt, -1, 0, 1, 9, math.MaxInt} {
			if s, e := d.Read(n); s != "" || numberOf(e) != api.ErrOff {
				t.Errorf("Read(%d) = %q, %v", n, s, e)
			}
			for _, s := range []string{"", "a", strings.Repeat("x", 513)} {
				if e := d.Write(n, s); numberOf(e) != api.ErrOff {
					t.Errorf("Write(%d, %d bytes): %v", n, len(s), e)
				}
			}
			if e := d.Flush(); numberOf(e) != api.ErrOff {
				t.Error(e)
			}
			d.Fuel(n)
			if d.Size() != 0 || d.Pending() != 0 || !d.Off() {
				t.Error(d.Size(), d.Pending(), d.Off())
			}
		}
		for _, keep := range []string{"", "1", "01"} {
			d.Fall(bits(keep))
			if d.Size() != 0 || d.Pending() != 0 || !d.Off() {
				t.Error(d.Size(), d.Pending(), d.Off())
			}
		}
	}
}

// P12.1: Read of sectors with no write, with pending ones, with sure bytes, and with both.
func TestRead(t *testing.T) {
	for _, script := range []string{
		"0? 8? +0 on",
		"3a 3?a 2? 4? +1",
		"3a 3b 3?b +2",
		"3a 4b 3c 4d 5e 3?c 4?d 5?e 6? +5",
		"3a 3b 3a 3?a +3",
		"3a . 3?a +0",
		"3a . 3b 3?b +1 . 3?b +0",
		"3a . 3b 3c 3?c +2",
		"3a 4b . 3c 3?c 4?b 5? +1",
		"3abc . 3x 3?x",
		"3abc 3x 3?x . 3?x",
		"3abc 3 3? . 3?",
		"0a 8b 0?a 8?b . 0?a 8?b",
		"3a . . 3?a 3b . 3?b",
		"3a 3?a 3?a +1 . 3?a 3?a +0",
	} {
		play(t, script)
	}
}

// P12.1, R6: Read and Write of sectors that aren't there.
func TestNoSuchSector(t *testing.T) {
	far := []int{-1, -2, -8, -9, -512, 9, 10, 18, 64, 256, 257, 264, 4095, 4096, 4096 + 3, 1 << 16, 1 << 23, 1<<31 + 3, 1 << 32, 1<<32 + 3, -1 << 32, 1 << 55, 1<<55 + 3, math.MinInt, math.MinInt + 3, math.MaxInt}
	d := play(t, "3a . 4b")
	for _, i := range far {
		if s, e := d.Read(i); s != "" || numberOf(e) != api.ErrArg {
			t.Errorf("Read(%d) = %q, %v", i, s, e)
		}
		for _, s := range []string{"", "x", strings.Repeat("x", 512), strings.Repeat("x", 513)} {
			if e := d.Write(i, s); numberOf(e) != api.ErrArg {
				t.Errorf("Write(%d, %d bytes): %v", i, len(s), e)
			}
		}
		if d.Pending() != 1 || d.Off() {
			t.Errorf("behind Write(%d): Pending %d, Off %v", i, d.Pending(), d.Off())
		}
	}
	for i := range 9 {
		want := map[int]string{3: "a", 4: "b"}[i]
		if s, e := d.Read(i); s != whole(want) || e != nil {
			t.Errorf("Read(%d) = %q, %v", i, s, e)
		}
	}
	one := made(t, 1)
	if e := one.Write(1, "x"); numberOf(e) != api.ErrArg {
		t.Error(e)
	}
	if _, e := one.Read(1); numberOf(e) != api.ErrArg {
		t.Error(e)
	}
	if e := one.Write(0, "x"); e != nil {
		t.Error(e)
	}
}

// P12.1: Write of texts of each length, each of them filled up with bytes 0, whatever was there; none that is too long.
func TestTexts(t *testing.T) {
	var texts []string
	for _, n := range []int{0, 1, 2, 255, 256, 257, 510, 511, 512} {
		texts = append(texts, strings.Repeat("x", n), strings.Repeat("\x00", n), strings.Repeat("\xff", n))
	}
	texts = append(texts, "a\x00b", "a\x00", "\x00a", "\x00\x00", "é\xc3", "\n", strings.Repeat("a\x00", 256), strings.Repeat("é", 256))
	d := made(t, 2)
	for _, sure := range []string{"", strings.Repeat("z", 512)} {
		for _, s := range texts {
			for _, e := range []error{d.Write(1, sure), d.Flush(), d.Write(1, s)} {
				if e != nil {
					t.Error(e)
				}
			}
			if got, e := d.Read(1); got != whole(s) || e != nil || len(got) != api.Sector {
				t.Errorf("%q, pending: %q, %v", s, got, e)
			}
			if e := d.Flush(); e != nil {
				t.Error(e)
			}
			if got, e := d.Read(1); got != whole(s) || e != nil || len(got) != api.Sector {
				t.Errorf("%q, sure: %q, %v", s, got, e)
			}
		}
	}
	was, _ := d.Read(1)
	for _, n := range []int{513, 514, 768, 1024, 4096, 65536, 65537, 1 << 20} {
		for _, b := range []string{"x", "\x00"} {
			if e := d.Write(1, strings.Repeat(b, n)); numberOf(e) != api.ErrArg {
				t.Errorf("%d bytes: %v", n, e)
			}
			if got, e := d.Read(1); got != was || e != nil || d.Pending() != 0 || d.Off() {
				t.Errorf("%d bytes: then %q, %v, Pending %d, Off %v", n, got, e, d.Pending(), d.Off())
			}
		}
	}
}

// P12.1: a disk of as many sectors as there may be, each of them with a text of its own.
func TestManySectors(t *testing.T) {
	p := pairOf(t, 4096)
	for i := range 4096 {
		p.do(move{kind: 'w', n: (i * 4093) % 4096, text: strconv.Itoa(i)})
	}
	p.look()
	p.do(move{kind: 'f'})
	p.look()
	for i := range 4096 {
		p.do(move{kind: 'w', n: i, text: "again" + strconv.Itoa(i)})
	}
	p.do(move{kind: 'd', keep: bits(strings.Repeat("110", 1300))})
	p.look()
}

// P12.1: many pending writes, more than there are sectors.
func TestManyPending(t *testing.T) {
	p := pairOf(t, 5)
	var keep []bool
	for i := range 20000 {
		p.do(move{kind: 'w', n: i % 5, text: strconv.Itoa(i)})
		keep = append(keep, i < 15000 && i%7 == 0)
	}
	p.look()
	p.do(move{kind: 'd', keep: keep})
	p.look()
	p.do(move{kind: 'w', n: 2, text: "x"})
	p.do(move{kind: 'f'})
	p.look()
}
