package redo_test

import (
	"math"
	"slices"
	"strings"
	"testing"

	"tambour/api"
	"tambour/redo"
)

// far are numbers that no disk has a page for.
var far = []int{math.MinInt, math.MinInt + 1, math.MinInt + 64, -1 << 32, -1<<32 + 3, -4096, -65, -64, -63, -2, -1, 4032, 4033, 1 << 31, 1 << 32, 1<<32 + 3, 1 << 62, math.MaxInt - 64, math.MaxInt - 63, math.MaxInt - 1, math.MaxInt}

// P13.1, P0: each call of a nil *Redo, whatever was called ahead.
func TestNil(t *testing.T) {
	var r *redo.Redo
	for range 2 {
		if n := r.Pages(); n != 0 {
			t.Errorf("Pages: %d", n)
		}
		for _, page := range append(far, 0, 1, 9) {
			if s, e := r.Read(page); s != "" || numberOf(e) != api.ErrOff {
				t.Errorf("Read(%d) = %q, %v", page, s, e)
			}
		}
		for _, l := range [][]api.Page{nil, {}, {{No: 0, Data: "a"}}, {{No: -1}}, {{No: 1}, {No: 1}}, {{Data: strings.Repeat("x", 513)}}, numbered(63), numbered(64)} {
			if e := r.Commit(l); numberOf(e) != api.ErrOff {
				t.Errorf("Commit of %d pages: %v", len(l), e)
			}
		}
	}
}

// P0: no call panics on a Redo that no Open has made; what it answers isn't said.
func TestNotOpened(t *testing.T) {
	r := new(redo.Redo)
	r.Pages()
	for _, page := range append(far, 0, 1) {
		r.Read(page)
		r.Commit([]api.Page{{No: page}})
	}
	r.Commit(nil)
}

// P13.1, R1, R2: Open of no disk, and of disks that are off: ErrOff, ahead of all that else is wrong with them.
func TestOpenOff(t *testing.T) {
	if r, e := redo.Open(nil); r != nil || numberOf(e) != api.ErrOff {
		t.Errorf("Open(nil): %v, %v", r, e)
	}
	for _, n := range []int{1, 2, 64, 65, 66, 4096} {
		for _, head := range []string{"", "junk", headOf(0)} {
			d := disk(t, n)
			lay(t, d, 0, head)
			off(t, d)
			for range 2 {
				if r, e := redo.Open(d); r != nil || numberOf(e) != api.ErrOff || !d.Off() {
					t.Errorf("Open of %d sectors, off: %v, %v", n, r, e)
				}
			}
		}
	}
}

// P13.1, R2, R3: Open of disks of fewer sectors than 65: ErrDisk, whatever is on them, and nothing is written.
func TestOpenSmall(t *testing.T) {
	for n := 1; n < 65; n++ {
		for _, head := range []string{"", "junk", headOf(0), headOf(1, whole("a")), emptyList()} {
			d := disk(t, n)
			lay(t, d, 0, head)
			d.Fuel(0)
			if r, e := redo.Open(d); r != nil || numberOf(e) != api.ErrDisk || d.Off() || d.Pending() != 0 {
				t.Errorf("Open of %d sectors: %v, %v", n, r, e)
			}
			if s := sectorOf(t, d, 0); s != whole(head) {
				t.Errorf("Open of %d sectors: the head is %q", n, s)
			}
		}
	}
}

// P13.1: Open of disks that are new, Pages, and Read of each page and of those next to it.
func TestOpenNew(t *testing.T) {
	for _, n := range []int{65, 66, 67, 80, 127, 128, 129, 500, 4095, 4096} {
		d := disk(t, n)
		d.Fuel(0)
		r := opened(t, d)
		if r.Pages() != n-64 || d.Off() || d.Pending() != 0 {
			t.Errorf("%d sectors: Pages %d, Off %v, Pending %d", n, r.Pages(), d.Off(), d.Pending())
		}
		for page := range n - 64 {
			if s, e := r.Read(page); s != whole("") || e != nil {
				t.Fatalf("%d sectors: Read(%d) = %q, %v", n, page, s, e)
			}
		}
		for _, page := range append(far, n-64, n-63, n-1, n, n+1) {
			if s, e := r.Read(page); s != "" || numberOf(e) != api.ErrArg {
				t.Errorf("%d sectors: Read(%d) = %q, %v", n, page, s, e)
			}
		}
	}
}

// P13.1: pages that were never written, written once, and written again; the others stay as they were.
func TestReadCommitted(t *testing.T) {
	r := opened(t, disk(t, 80))
	want := slices.Repeat([]string{""}, 16)
	for _, l := range [][]api.Page{
		{{No: 2, Data: "a"}},
		{{No: 2, Data: "longer"}, {No: 5, Data: "b"}},
		{{No: 2, Data: "x"}},
		{{No: 0, Data: "first"}, {No: 15, Data: "last"}},
		{{No: 5, Data: ""}, {No: 15, Data: "last again"}, {No: 1, Data: "c"}},
		{{No: 5, Data: "\x00\xff\x00"}},
		{{No: 5, Data: "\x00"}},
		{},
		{{No: 7, Data: strings.Repeat("x", 512)}},
		{{No: 7, Data: strings.Repeat("y", 511)}},
		{{No: 3}},
	} {
		if e := r.Commit(l); e != nil {
			t.Fatal(l, e)
		}
		for _, p := range l {
			want[p.No] = p.Data
		}
		for page, s := range want {
			if got, e := r.Read(page); got != whole(s) || e != nil {
				t.Errorf("%v: Read(%d) = %q, %v, want %q", l, page, got, e, s)
			}
		}
	}
}

// P13.1: Commit of up to MaxPages pages, of those next to both ends, rising, falling and any; each Open behind it shows them too.
func TestCommitMany(t *testing.T) {
	for _, n := range []int{65, 66, 80, 126, 127, 128, 500, 4096} {
		for _, k := range []int{1, 2, 3, 16, 62, 63} {
			if k > n-64 {
				continue
			}
			var rising, falling []api.Page
			for i := range k {
				rising = append(rising, api.Page{No: i, Data: strings.Repeat(string(rune('0'+i)), 3)})
				falling = append(falling, api.Page{No: n - 65 - i, Data: strings.Repeat(string(rune('0'+i)), 512/(i+1))})
			}
			for _, l := range [][]api.Page{rising, falling} {
				d := disk(t, n)
				r := opened(t, d)
				want := pagesOf(t, r)
				for _, p := range l {
					want[p.No] = whole(p.Data)
				}
				d.Fuel(2*k + 6)
				if e := r.Commit(l); e != nil || d.Pending() != 0 {
					t.Fatalf("%d sectors, %d pages: %v", n, k, e)
				}
				if got := pagesOf(t, r); !slices.Equal(got, want) {
					t.Errorf("%d sectors, %d pages: wrong pages", n, k)
				}
				if got := pagesOf(t, opened(t, d)); !slices.Equal(got, want) || d.Off() {
					t.Errorf("%d sectors, %d pages, opened again: wrong pages", n, k)
				}
			}
		}
	}
}

// P13.1: Data of each length, up to a sector's and one more; bytes 0 are filled in, also where a longer one was.
func TestData(t *testing.T) {
	r := opened(t, disk(t, 70))
	for n := range 515 {
		for _, b := range []string{"x", "\x00", "\xff"} {
			full := api.Page{No: 4, Data: strings.Repeat("y", 512)}
			if e := r.Commit([]api.Page{full}); e != nil {
				t.Fatal(e)
			}
			data, want := strings.Repeat(b, n), api.OK
			e := r.Commit([]api.Page{{No: 3, Data: "z"}, {No: 4, Data: data}})
			if n > 512 {
				data, want = full.Data, api.ErrArg
			}
			if s, f := r.Read(4); numberOf(e) != want || s != whole(data) || f != nil {
				t.Errorf("Data of %d bytes: %v, Read = %q, %v", n, e, s, f)
			}
		}
	}
}

// refused is what Commit answers an error to.
type refused struct {
	l    []api.Page
	want api.Errno
}

// wrong are lists of pages that Commit refuses on a disk of 200 sectors.
func wrong() map[string]refused {
	long := strings.Repeat("x", 513)
	many := numbered(64)
	return map[string]refused{
		"below 0":                      {[]api.Page{{No: -1}}, api.ErrArg},
		"Pages":                        {[]api.Page{{No: 136}}, api.ErrArg},
		"one more":                     {[]api.Page{{No: 137}}, api.ErrArg},
		"the disk's last sector":       {[]api.Page{{No: 199}}, api.ErrArg},
		"below 0 behind":               {[]api.Page{{No: 1}, {No: -1}}, api.ErrArg},
		"Pages ahead":                  {[]api.Page{{No: 136}, {No: 1}}, api.ErrArg},
		"twice":                        {[]api.Page{{No: 1}, {No: 1}}, api.ErrArg},
		"twice, the same":              {[]api.Page{{No: 1, Data: "a"}, {No: 1, Data: "a"}}, api.ErrArg},
		"twice, apart":                 {[]api.Page{{No: 0}, {No: 1}, {No: 2}, {No: 3}, {No: 0}}, api.ErrArg},
		"the last one twice":           {[]api.Page{{No: 135}, {No: 1}, {No: 135}}, api.ErrArg},
		"three times":                  {[]api.Page{{No: 7}, {No: 7}, {No: 7}}, api.ErrArg},
		"513 bytes":                    {[]api.Page{{No: 1, Data: long}}, api.ErrArg},
		"513 bytes behind":             {[]api.Page{{No: 1}, {No: 2}, {No: 3, Data: long}}, api.ErrArg},
		"a mebibyte":                   {[]api.Page{{No: 1, Data: strings.Repeat("\x00", 1<<20)}}, api.ErrArg},
		"64 pages":                     {many, api.ErrBig},
		"65 pages":                     {numbered(65), api.ErrBig},
		"136 pages":                    {numbered(136), api.ErrBig},
		"137 pages, the last is none":  {numbered(137), api.ErrArg},
		"63 pages, one twice":          {slices.Concat(numbered(62), numbered(1)), api.ErrArg},
		"64 pages, one twice":          {slices.Concat(numbered(63), numbered(1)), api.ErrArg},
		"64 pages, the first is none":  {slices.Concat([]api.Page{{No: -1}}, numbered(63)), api.ErrArg},
		"64 pages, the last is none":   {slices.Concat(numbered(63), []api.Page{{No: 136}}), api.ErrArg},
		"64 pages, the last too long":  {slices.Concat(numbered(63), []api.Page{{No: 99, Data: long}}), api.ErrArg},
		"64 pages, the first too long": {slices.Concat([]api.Page{{No: 99, Data: long}}, numbered(63)), api.ErrArg},
		"a million pages":              {slices.Repeat(numbered(63), 1<<14), api.ErrArg},
	}
}

// P13.1, R1, R2, R3, R6: what Commit refuses, on a disk that is on and on one that is off; it takes no step and changes nothing.
func TestCommitRefused(t *testing.T) {
	for why, c := range wrong() {
		d := disk(t, 200)
		r := opened(t, d)
		if e := r.Commit([]api.Page{{No: 1, Data: "a"}, {No: 99, Data: "b"}}); e != nil {
			t.Fatal(e)
		}
		ahead := sectorsOf(t, d)
		d.Fuel(0)
		for range 2 {
			if e := r.Commit(c.l); numberOf(e) != c.want || d.Off() || d.Pending() != 0 {
				t.Errorf("%s: %v, Off %v, Pending %d", why, e, d.Off(), d.Pending())
			}
		}
		if !slices.Equal(sectorsOf(t, d), ahead) {
			t.Errorf("%s: the disk has changed", why)
		}
		off(t, d)
		if e := r.Commit(c.l); numberOf(e) != c.want || d.Pending() != 0 {
			t.Errorf("%s, off: %v", why, e)
		}
	}
}

// P13.1, R6: each number that no disk has a page for, by itself and behind others.
func TestCommitFar(t *testing.T) {
	for _, n := range []int{65, 4096} {
		d := disk(t, n)
		r := opened(t, d)
		d.Fuel(0)
		for _, page := range append(far, n-64, n-1, n) {
			for _, l := range [][]api.Page{{{No: page}}, {{No: 0}, {No: page}}, {{No: page}, {No: 0}}} {
				if e := r.Commit(l); numberOf(e) != api.ErrArg || d.Off() {
					t.Errorf("%d sectors: Commit(%v): %v", n, l, e)
				}
			}
		}
	}
}

// P13.1: Commit of none: nil, and no step, also where the disk is off.
func TestCommitNone(t *testing.T) {
	d := disk(t, 80)
	r := opened(t, d)
	for _, l := range [][]api.Page{nil, {}, numbered(9)[:0]} {
		d.Fuel(0)
		if e := r.Commit(l); e != nil || d.Off() || d.Pending() != 0 {
			t.Errorf("%v: Off %v, Pending %d", e, d.Off(), d.Pending())
		}
	}
	off(t, d)
	if e := r.Commit(nil); e != nil || !d.Off() {
		t.Error(e)
	}
}

// P13.1, R1, R2: the calls on a disk that is off: ErrOff of each Read, whatever the page; Pages is as it was.
func TestOff(t *testing.T) {
	d := disk(t, 80)
	r := opened(t, d)
	if e := r.Commit([]api.Page{{No: 3, Data: "a"}}); e != nil {
		t.Fatal(e)
	}
	off(t, d)
	for range 2 {
		for _, page := range append(far, 0, 3, 15, 16) {
			if s, e := r.Read(page); s != "" || numberOf(e) != api.ErrOff {
				t.Errorf("Read(%d) = %q, %v", page, s, e)
			}
		}
		if e := r.Commit([]api.Page{{No: 3, Data: "b"}}); numberOf(e) != api.ErrOff || r.Pages() != 16 || d.Pending() != 0 {
			t.Error(e, r.Pages(), d.Pending())
		}
	}
	d.Fall(nil)
	if s, e := r.Read(3); s != whole("a") || e != nil || r.Pages() != 16 {
		t.Errorf("Read = %q, %v", s, e)
	}
}

// P13.1: the example of the chapter: pages 2 and 5, off behind the second flush.
func TestExample(t *testing.T) {
	d := disk(t, 80)
	r := opened(t, d)
	d.Fuel(5)
	if e := r.Commit([]api.Page{{No: 2, Data: "a"}, {No: 5, Data: "b"}}); numberOf(e) != api.ErrOff || !d.Off() {
		t.Fatal(e)
	}
	d.Fall(nil)
	r = opened(t, d)
	for page, want := range map[int]string{2: "a", 5: "b", 0: "", 4: ""} {
		if s, e := r.Read(page); s != whole(want) || e != nil {
			t.Errorf("Read(%d) = %q, %v", page, s, e)
		}
	}
}
