package sector_test

import (
	"fmt"
	"math/rand"
	"slices"
	"strings"
	"sync"
	"testing"

	"tambour/sector"
)

// R4: a Fall changes neither the truths that it is handed, nor what stands behind them, and takes none from there.
func TestKeepUnchanged(t *testing.T) {
	for n := range 6 {
		for _, all := range truths(6) {
			d := play(t, "0a 1b 2c 3d 4e 5f")
			was := slices.Clone(all)
			d.Fall(all[:n])
			if !slices.Equal(all, was) {
				t.Errorf("Fall(%v): now %v", was, all)
			}
			for i := range 6 {
				want := ""
				if i < n && was[i] {
					want = string(rune('a' + i))
				}
				if s, e := d.Read(i); s != whole(want) || e != nil {
					t.Errorf("Fall(%v): Read(%d) = %q, %v", was[:n], i, strings.TrimRight(s, "\x00"), e)
				}
			}
		}
	}
}

// R4: the truths aren't kept: what becomes of them changes nothing.
func TestKeepNotKept(t *testing.T) {
	d := play(t, "3a 4b")
	keep := bits("10")
	d.Fall(keep)
	keep[0], keep[1] = false, true
	for _, word := range strings.Fields("3?a 4? +0 5c 6d ! 3?a 4? 5? 6? +0") {
		if why := playWord(d, word); why != "" {
			t.Error(word, why)
		}
	}
}

// R4: what a Read has answered stays, whatever becomes of the sector.
func TestAnswersStay(t *testing.T) {
	r := rand.New(rand.NewSource(4))
	for range 200 {
		p := pairOf(t, 3)
		var answers, copies []string
		for range 40 {
			p.do(anyMove(r, 3, len(p.said.pending)))
			for i := range 3 {
				if s, e := p.disk.Read(i); e == nil {
					answers, copies = append(answers, s), append(copies, strings.Clone(s))
				}
			}
		}
		if !slices.Equal(answers, copies) {
			t.Fatalf("%v: an answer has changed", p.late())
		}
	}
}

// R7: two disks have nothing to do with each other.
func TestDisksApart(t *testing.T) {
	r := rand.New(rand.NewSource(7))
	for range 300 {
		p, q := pairOf(t, 3), pairOf(t, 4)
		for range 40 {
			if r.Intn(2) == 0 {
				p.do(anyMove(r, 3, len(p.said.pending)))
			} else {
				q.do(anyMove(r, 4, len(q.said.pending)))
			}
			p.look()
			q.look()
		}
	}
}

// told tells all that a disk answers to some moves.
func told(d *sector.Disk, moves []move) string {
	var out strings.Builder
	for _, m := range moves {
		switch m.kind {
		case 'w':
			fmt.Fprint(&out, d.Write(m.n, m.text))
		case 'f':
			fmt.Fprint(&out, d.Flush())
		case 'u':
			d.Fuel(m.n)
		default:
			d.Fall(m.keep)
		}
		s, e := d.Read(m.n)
		fmt.Fprintf(&out, "; %q, %v, %d, %v, %d\n", s, e, d.Size(), d.Off(), d.Pending())
	}
	return out.String()
}

// R7: the same calls answer the same on each new disk, and on several disks at once.
func TestOneAnswer(t *testing.T) {
	r := rand.New(rand.NewSource(77))
	var moves []move
	for range 300 {
		moves = append(moves, anyMove(r, 7, 4))
	}
	want := told(made(t, 7), moves)
	var all sync.WaitGroup
	for range 8 {
		all.Go(func() {
			for range 5 {
				d, _ := sector.New(7)
				if told(d, moves) != want {
					t.Error("the same moves, and other answers")
				}
			}
		})
	}
	all.Wait()
}
