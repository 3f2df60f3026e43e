package redo_test

import (
	"fmt"
	"math/rand"
	"slices"
	"strings"
	"sync"
	"testing"

	"tambour/api"
	"tambour/redo"
	"tambour/sector"
)

// R4: Commit changes neither the pages that it is handed nor the room behind them, whatever it answers.
func TestListUnchanged(t *testing.T) {
	r := rand.New(rand.NewSource(4))
	seen := map[api.Errno]int{}
	for range 600 {
		d := disk(t, 140)
		x := opened(t, d)
		l := anyPages(r, 76)
		all := slices.Grow(slices.Clone(l), 5)[:len(l)+5]
		for i := len(l); i < len(all); i++ {
			all[i] = api.Page{No: i - 3, Data: "behind"}
		}
		was := slices.Clone(all)
		if r.Intn(3) == 0 {
			d.Fuel(r.Intn(12))
		}
		seen[numberOf(x.Commit(all[:len(l)]))]++
		if !slices.Equal(all, was) {
			t.Fatalf("Commit(%v): now %v", was, all)
		}
	}
	for _, n := range []api.Errno{api.OK, api.ErrArg, api.ErrBig, api.ErrOff} {
		if seen[n] == 0 {
			t.Errorf("none answered %d", n)
		}
	}
}

// R4: the pages aren't kept: what becomes of them changes nothing, nor do the bytes that they stand in.
func TestListNotKept(t *testing.T) {
	d := disk(t, 80)
	r := opened(t, d)
	l := []api.Page{{No: 2, Data: "a"}, {No: 5, Data: "b"}}
	if e := r.Commit(l); e != nil {
		t.Fatal(e)
	}
	l[0], l[1] = api.Page{No: 3, Data: "x"}, api.Page{No: -1, Data: strings.Repeat("x", 600)}
	for range 2 {
		for page, want := range map[int]string{2: "a", 5: "b", 3: ""} {
			if s, e := r.Read(page); s != whole(want) || e != nil {
				t.Errorf("Read(%d) = %q, %v", page, s, e)
			}
		}
		if e := r.Commit([]api.Page{{No: 9, Data: "c"}}); e != nil {
			t.Error(e)
		}
		d.Fall(nil)
		r = opened(t, d)
	}
}

// R4: what a Read has answered stays, whatever becomes of the page.
func TestAnswersStay(t *testing.T) {
	r := rand.New(rand.NewSource(44))
	for range 50 {
		d := disk(t, 68)
		x := opened(t, d)
		var answers, copies []string
		for range 20 {
			x.Commit(anyPages(r, 4))
			for page := range 4 {
				if s, e := x.Read(page); e == nil {
					answers, copies = append(answers, s), append(copies, strings.Clone(s))
				}
			}
		}
		if !slices.Equal(answers, copies) {
			t.Fatal("an answer has changed")
		}
	}
}

// told tells all that some calls answer on a new disk.
func told(seed int64) string {
	r := rand.New(rand.NewSource(seed))
	d, _ := sector.New(70)
	x, e := redo.Open(d)
	var out strings.Builder
	fmt.Fprintln(&out, e)
	for range 100 {
		d.Fuel(r.Intn(20) - 1)
		fmt.Fprintln(&out, x.Commit(anyPages(r, 6)), d.Off(), d.Pending())
		if d.Off() {
			d.Fall(anyKeep(r, d.Pending()))
			x, e = redo.Open(d)
			fmt.Fprintln(&out, e)
		}
		for page := range 7 {
			s, e := x.Read(page)
			fmt.Fprintf(&out, "%d %q %v\n", x.Pages(), s, e)
		}
	}
	return out.String()
}

// R7: the same calls answer the same on each new disk, and on several disks at once.
func TestOneAnswer(t *testing.T) {
	want := []string{told(1), told(2), told(3)}
	var all sync.WaitGroup
	for i := range 9 {
		all.Go(func() {
			for range 3 {
				if told(int64(1+i%3)) != want[i%3] {
					t.Error("the same calls, and other answers")
				}
			}
		})
	}
	all.Wait()
}

// R7: two disks have nothing to do with each other.
func TestDisksApart(t *testing.T) {
	r := rand.New(rand.NewSource(77))
	p, q := pairOf(t, 70), pairOf(t, 80)
	p.open()
	q.open()
	for range 400 {
		x := p
		if r.Intn(2) == 0 {
			x = q
		}
		x.fuel(r.Intn(15) - 1)
		if x.commit(anyPages(r, x.disk.Size()-64)) == api.ErrOff {
			x.fall(anyKeep(r, x.disk.Pending()))
			x.open()
		}
		for page := range 6 {
			p.read(page)
			q.read(page)
		}
	}
}
