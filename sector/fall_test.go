package sector_test

import (
	"math/rand"
	"slices"
	"strings"
	"testing"

	"tambour/sector"
)

// P12.1: what a Fall keeps, of which pending writes.
func TestFall(t *testing.T) {
	for _, script := range []string{
		"3a . 3b 4c !01 3?a 4?c +0 on",
		"3a 4b 5c ! 3? 4? 5? +0",
		"3a 4b 5c !000 3? 4? 5? +0",
		"3a 4b 5c !111 3?a 4?b 5?c +0",
		"3a 4b 5c !100 3?a 4? 5?",
		"3a 4b 5c !010 3? 4?b 5?",
		"3a 4b 5c !001 3? 4? 5?c",
		"3a 4b 5c !101 3?a 4? 5?c",
		"3a 4b 5c !1 3?a 4? 5?",
		"3a 4b 5c !01 3? 4?b 5?",
		"3a 4b 5c !11 3?a 4?b 5?",
		"3a 4b 5c !0 3? 4? 5?",
		"3a 4b 5c !11111 3?a 4?b 5?c",
		"3a 4b 5c !00011 3? 4? 5?",
		"3a 4b 5c !01011 3? 4?b 5?",
		"5a 4b 3c !10 5?a 4? 3?",
	} {
		play(t, script)
	}
}

// P12.1: a Fall of several writes to one sector.
func TestFallOneSector(t *testing.T) {
	for _, script := range []string{
		"3a 3b !10 3?a",
		"3a 3b !01 3?b",
		"3a 3b !11 3?b",
		"3a 3b !00 3?",
		"3a 3b !1 3?a",
		"3a 3b ! 3?",
		"3a 3b 3c !110 3?b",
		"3a 3b 3c !101 3?c",
		"3a 3b 3c !010 3?b",
		"3a . 3b 3c !10 3?b",
		"3a . 3b 3c !01 3?c",
		"3a . 3b 3c !00 3?a",
		"3abc . 3x 3yz !10 3?x",
		"3a 4b 3c 4d !1001 3?a 4?d",
		"3a 4b 3c 4d !0110 3?c 4?b",
		"3a . 3b 3a !10 3?b",
		"3 3a . 3b 3 3c !010 3?",
	} {
		play(t, script)
	}
}

// P12.1: a Fall of a disk that is on and of one that is off, with and without a limit: behind it the disk is on, without one.
func TestFallOn(t *testing.T) {
	for _, ahead := range []string{"", "~0", "~1", "~9", "~-1", "~0 5x=20 off", "~0 .=20 off", "~0 5x=20 ~0", "~0 5x=20 ~1", "~1 5? ~0 5x=20"} {
		for _, keep := range []string{"!", "!1", "!01", "!11", "!1111"} {
			for _, pending := range []string{"", "3b 4c"} {
				kept := map[string]string{"!": "3?a 4?", "!1": "3?b 4?", "!01": "3?a 4?c", "!11": "3?b 4?c", "!1111": "3?b 4?c"}[keep]
				if pending == "" {
					kept = "3?a 4?"
				}
				behind := "on +0 " + kept + " 5? 6x 6y 6z . 6?z 3u on +1 ! " + kept + " 6?z on"
				play(t, strings.Join([]string{"3a .", pending, ahead, keep, behind}, " "))
			}
		}
	}
}

// P12.1: Falls behind one another, and what is pending behind a Fall: its places are counted anew, and what an earlier
// Fall was told holds no more.
func TestFallAgain(t *testing.T) {
	for _, script := range []string{
		"! +0 on 3? !111 +0 on 3?",
		"3a !1 3?a ! 3?a !1 3?a",
		"3a ! 3? !1 3? !111 3?",
		"3a !111 4b ! 3?a 4?",
		"3a !111 4b 5c !01 3?a 4? 5?c",
		"3a . 4b 5c !1 3?a 4?b 5?",
		"3a 4b . 5c 6d !01 3?a 4?b 5? 6?d",
		"3a ! 3b !1 3?b",
		"3a !0 3b +1 !0 3?",
		"3a !1 . 3?a . 3?a +0",
		"3a 3b !10 . 3?a",
		"3a ! . 3? +0",
		"3a 4b !01 3c . 3?c 4?b !11 3?c 4?b",
		"3a !1 3b 3?b ! 3?a",
		"~1 3a 3b=20 !1 3?a ~1 3c 3d=20 ! 3?a ~0 .=20 !111 3?a",
	} {
		play(t, script)
	}
}

// flushed is a disk with some moves behind it, what was sure there at its last Flush, and what is pending since.
type flushed struct {
	disk    *sector.Disk
	sure    []string
	pending []note
}

// history makes writes and Flushes on a disk of n sectors, up to those steps that its fuel lets it do.
func history(t *testing.T, n, fuel int, steps []note) flushed {
	t.Helper()
	h := flushed{disk: made(t, n), sure: slices.Repeat([]string{whole("")}, n)}
	h.disk.Fuel(fuel)
	for place, s := range steps {
		if s.at < 0 {
			if h.disk.Flush() == nil {
				for _, p := range h.pending {
					h.sure[p.at] = whole(p.text)
				}
				h.pending = nil
			}
		} else if h.disk.Write(s.at, s.text) == nil {
			h.pending = append(h.pending, s)
		}
		if fuel >= 0 && h.disk.Off() != (place >= fuel) {
			t.Fatalf("%v, Fuel(%d): Off %v behind step %d", steps, fuel, h.disk.Off(), place)
		}
	}
	return h
}

// lasts holds P12.2's own words against the disk behind a fall: a sector without a pending write has what was flushed,
// and another one has the last one that was kept, if one was.
func (h flushed) lasts(t *testing.T, keep []bool) {
	t.Helper()
	h.disk.Fall(keep)
	if h.disk.Off() || h.disk.Pending() != 0 {
		t.Fatalf("Off %v, Pending %d", h.disk.Off(), h.disk.Pending())
	}
	for i, want := range h.sure {
		for place, p := range h.pending {
			if p.at == i && place < len(keep) && keep[place] {
				want = whole(p.text)
			}
		}
		if got, e := h.disk.Read(i); got != want || e != nil {
			t.Fatalf("Fall(%v), pending %v: sector %d is %q, %v, want %q", keep, h.pending, i, strings.TrimRight(got, "\x00"), e, strings.TrimRight(want, "\x00"))
		}
	}
}

// truths are all lists of that many.
func truths(n int) [][]bool {
	if n == 0 {
		return [][]bool{nil}
	}
	var out [][]bool
	for _, l := range truths(n - 1) {
		out = append(out, append(slices.Clone(l), false), append(slices.Clone(l), true))
	}
	return out
}

// P12.2: a disk that goes off at each step, and falls with each choice of pending writes.
func TestFlushedLasts(t *testing.T) {
	flush := note{at: -1}
	for _, steps := range [][]note{
		{{3, "a"}, flush, {3, "b"}, {4, "c"}},
		{{0, "a"}, {1, "b"}, flush, {1, "c"}, {2, "d"}, flush, {0, "e"}, {2, "f"}, {0, "g"}},
		{{0, "long"}, {1, "longer"}, flush, {0, "x"}, {0, ""}, {0, "y"}, {1, "z"}, flush},
		{flush, flush, {5, "a"}, flush, flush, {5, "b"}, {5, "c"}, {5, "d"}, {5, "e"}},
		{{0, "a"}, {1, "b"}, {2, "c"}, {3, "d"}, {4, "e"}, {5, "f"}},
	} {
		for fuel := -1; fuel <= len(steps); fuel++ {
			for _, keep := range truths(len(history(t, 6, fuel, steps).pending) + 1) {
				for n := range len(keep) + 1 {
					history(t, 6, fuel, steps).lasts(t, keep[:n])
				}
			}
		}
	}
}

// P12.2: thousands of disks, each with falls behind one another.
func TestFlushedLastsAnyhow(t *testing.T) {
	r := rand.New(rand.NewSource(122))
	for range 3000 {
		var steps []note
		for range r.Intn(30) {
			s := note{at: r.Intn(9), text: anyText(r)}
			if r.Intn(5) == 0 {
				s = note{at: -1}
			}
			if len(s.text) <= 512 {
				steps = append(steps, s)
			}
		}
		h := history(t, 9, r.Intn(40)-1, steps)
		h.lasts(t, anyKeep(r, len(h.pending)))
		for i := range h.sure {
			h.sure[i], _ = h.disk.Read(i)
		}
		h.pending = []note{{0, "x"}, {8, "y"}}
		for _, p := range h.pending {
			if e := h.disk.Write(p.at, p.text); e != nil {
				t.Fatal(e)
			}
		}
		h.lasts(t, anyKeep(r, 2))
	}
}
