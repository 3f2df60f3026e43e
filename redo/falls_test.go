package redo_test

import (
	"fmt"
	"maps"
	"math/rand"
	"slices"
	"strconv"
	"strings"
	"testing"

	"tambour/api"
	"tambour/redo"
	"tambour/sector"
)

// choices are lists of truths of so many pending writes: all there are up to seven; of more, those that keep up to some
// place, from some place on, one, or all but one, and some others.
func choices(n int) [][]bool {
	if n == 0 {
		return [][]bool{nil}
	}
	var out [][]bool
	if n <= 7 {
		for i := range 1 << n {
			out = append(out, bits(fmt.Sprintf("%0*b", n, i)))
		}
		return out
	}
	r := rand.New(rand.NewSource(int64(n)))
	for _, first := range []bool{false, true} {
		for i := 0; i <= n; i += 1 + n/6 {
			run, one := slices.Repeat([]bool{!first}, n), slices.Repeat([]bool{!first}, n)
			for j := range i {
				run[j] = first
			}
			one[i%n] = first
			out = append(out, run, one)
		}
		mixed := make([]bool, n)
		for j := range mixed {
			mixed[j] = r.Intn(2) == 0
		}
		out = append(out, mixed)
	}
	return out
}

// copyOf is a disk with the same bytes, all sure, on and without a limit.
func copyOf(t testing.TB, d *sector.Disk) *sector.Disk {
	t.Helper()
	out := disk(t, d.Size())
	for i, s := range sectorsOf(t, d) {
		if s == whole("") {
			continue
		}
		if e := out.Write(i, s); e != nil {
			t.Fatal(e)
		}
	}
	if e := out.Flush(); e != nil {
		t.Fatal(e)
	}
	return out
}

// with are the pages that a commit makes of some.
func with(pages []string, l []api.Page) []string {
	out := slices.Clone(pages)
	for _, p := range l {
		out[p.No] = whole(p.Data)
	}
	return out
}

// allOrNone opens a disk without a limit and holds that its pages are one of two states, and the same when it is opened again.
func allOrNone(t testing.TB, why string, d *sector.Disk, was, now []string) []string {
	t.Helper()
	d.Fuel(-1)
	got := pagesOf(t, opened(t, d))
	if !slices.Equal(got, was) && !slices.Equal(got, now) {
		t.Fatalf("%s: some pages are changed, and not all", why)
	}
	d.Fall(nil)
	if again := pagesOf(t, opened(t, d)); !slices.Equal(again, got) {
		t.Fatalf("%s: opened again it has other pages", why)
	}
	return got
}

// brokenOpens opens copies of a disk that go off at each step of Open, with each choice of the pending writes, and so on as deep as is told; behind each an Open that answers nil has all of the pages, or none.
func brokenOpens(t testing.TB, why string, d *sector.Disk, was, now []string, steps, deep int) {
	t.Helper()
	got := allOrNone(t, why, copyOf(t, d), was, now)
	if deep == 0 {
		return
	}
	for fuel := range steps {
		for i := 0; ; i++ {
			c := copyOf(t, d)
			c.Fuel(fuel)
			_, e := redo.Open(c)
			all := choices(c.Pending())
			if e == nil {
				allOrNone(t, why, c, got, got)
				break
			}
			if i == len(all) {
				break
			}
			c.Fall(all[i])
			brokenOpens(t, fmt.Sprintf("%s, Open off at %d, %v", why, fuel, all[i]), c, got, got, steps, deep-1)
		}
	}
}

// brokenCommits commits on copies of a disk that go off at each step, with each choice of the pending writes.
func brokenCommits(t *testing.T, d *sector.Disk, l []api.Page, deep int) {
	t.Helper()
	was := pagesOf(t, opened(t, d))
	now := with(was, l)
	for fuel := range 2*len(l) + 8 {
		for i := 0; ; i++ {
			c := copyOf(t, d)
			r := opened(t, c)
			c.Fuel(fuel)
			e := r.Commit(l)
			all := choices(c.Pending())
			if i == len(all) {
				break
			}
			if want := fuel < 2*len(l)+6; numberOf(e) != api.ErrOff && want || e != nil && !want {
				t.Fatalf("%d pages, fuel %d: Commit: %v", len(l), fuel, e)
			}
			c.Fall(all[i])
			why := fmt.Sprintf("%d pages, Commit off at %d, %v", len(l), fuel, all[i])
			if e == nil || fuel >= len(l)+3 {
				// The head is flushed: it is all of the pages from there on.
				brokenOpens(t, why, c, now, now, len(l)+3, deep)
			} else if fuel < len(l)+2 {
				brokenOpens(t, why, c, was, was, len(l)+3, deep)
			} else {
				brokenOpens(t, why, c, was, now, len(l)+3, deep)
			}
		}
	}
}

// P13.2: commits of few pages, on disks that go off at each step of the Commit and of the Opens behind it, with each choice of pending writes.
func TestBrokenOff(t *testing.T) {
	old := []api.Page{{No: 0, Data: "old 0"}, {No: 1, Data: "old 1"}, {No: 2, Data: strings.Repeat("old", 100)}, {No: 5, Data: "old 5"}}
	for _, ahead := range [][]api.Page{nil, old} {
		for _, c := range []struct {
			l    []api.Page
			deep int
		}{
			{[]api.Page{{No: 2, Data: "new 2"}}, 3},
			{[]api.Page{{No: 2}}, 2},
			{[]api.Page{{No: 5, Data: "new 5"}, {No: 2, Data: "new 2"}}, 2},
			{[]api.Page{{No: 0, Data: "new 0"}, {No: 15, Data: "new 15"}, {No: 1, Data: "new 1"}}, 1},
			{[]api.Page{{No: 4, Data: strings.Repeat("x", 512)}, {No: 3, Data: strings.Repeat("y", 512)}, {No: 2}, {No: 1, Data: "z"}}, 1},
		} {
			d := disk(t, 80)
			if e := opened(t, d).Commit(ahead); e != nil {
				t.Fatal(e)
			}
			brokenCommits(t, d, c.l, c.deep)
		}
	}
}

// P13.2: commits of many pages, up to MaxPages, likewise with many choices.
func TestManyBrokenOff(t *testing.T) {
	for _, k := range []int{6, 8, 20, 62, 63} {
		d := disk(t, 64+k+3)
		var ahead []api.Page
		for i := range min(k, 40) {
			ahead = append(ahead, api.Page{No: i + 2, Data: "old " + strconv.Itoa(i)})
		}
		if e := opened(t, d).Commit(ahead); e != nil {
			t.Fatal(e)
		}
		brokenCommits(t, d, numbered(k), 0)
	}
}

// P13.2: a commit that has the bytes that are there, one that only some pages change in, and one that was broken off and is made again.
func TestSameAgain(t *testing.T) {
	l := []api.Page{{No: 2, Data: "a"}, {No: 5, Data: "b"}}
	d := disk(t, 80)
	if e := opened(t, d).Commit(l); e != nil {
		t.Fatal(e)
	}
	brokenCommits(t, d, l, 1)
	brokenCommits(t, d, []api.Page{{No: 2, Data: "a"}, {No: 5, Data: "c"}}, 1)
	for fuel := range 10 {
		for _, keep := range choices(2) {
			c := copyOf(t, d)
			r := opened(t, c)
			again := []api.Page{{No: 5, Data: "x"}, {No: 2, Data: "y"}}
			c.Fuel(fuel)
			if e := r.Commit(again); numberOf(e) != api.ErrOff {
				t.Fatal(fuel, e)
			}
			c.Fall(keep)
			if e := opened(t, c).Commit(again); e != nil {
				t.Fatal(fuel, e)
			}
			c.Fall(keep)
			if got, want := pagesOf(t, opened(t, c)), with(pagesOf(t, opened(t, d)), again); !slices.Equal(got, want) {
				t.Errorf("fuel %d: made again it isn't there", fuel)
			}
		}
	}
}

// P13.2: behind a Commit that answered nil its pages are there, whatever falls afterwards, and whatever the next one is broken off in.
func TestAnswered(t *testing.T) {
	first := []api.Page{{No: 2, Data: "a"}, {No: 5, Data: "b"}}
	second := []api.Page{{No: 7, Data: "c"}, {No: 9, Data: "d"}, {No: 8, Data: "e"}}
	for _, l := range [][]api.Page{first, second} {
		for _, keep := range [][]bool{nil, bits("1"), bits("0000"), bits("1111111111")} {
			d := disk(t, 80)
			r := opened(t, d)
			if e := r.Commit(l); e != nil || d.Pending() != 0 {
				t.Fatal(e, d.Pending())
			}
			want := with(slices.Repeat([]string{whole("")}, 16), l)
			for range 2 {
				d.Fall(keep)
				if got := pagesOf(t, r); !slices.Equal(got, want) {
					t.Error("a fall has changed pages")
				}
				r = opened(t, d)
			}
		}
	}
	for fuel := range 13 {
		for i := 0; ; i++ {
			d := disk(t, 80)
			r := opened(t, d)
			if e := r.Commit(first); e != nil {
				t.Fatal(e)
			}
			d.Fuel(fuel)
			r.Commit(second)
			all := choices(d.Pending())
			if i == len(all) {
				break
			}
			d.Fall(all[i])
			r = opened(t, d)
			for page, want := range map[int]string{2: "a", 5: "b"} {
				if s, e := r.Read(page); s != whole(want) || e != nil {
					t.Errorf("fuel %d, %v: Read(%d) = %q, %v", fuel, all[i], page, s, e)
				}
			}
		}
	}
}

// P13.2: thousands of commits one behind the other, some broken off, and the Opens behind them too: the pages are as they were, or as that commit says.
func TestOneBehindTheOther(t *testing.T) {
	r := rand.New(rand.NewSource(132))
	seen := map[string]int{}
	for i := range 150 {
		d := disk(t, []int{65, 67, 80, 140}[i%4])
		x := opened(t, d)
		was := pagesOf(t, x)
		for range 30 {
			l := anyPages(r, d.Size()-64)
			d.Fuel(r.Intn(2*len(l)+12) - 1)
			now := was
			switch e := x.Commit(l); numberOf(e) {
			case api.OK:
				was, now = with(was, l), with(was, l)
				seen["nil"]++
			case api.ErrOff:
				now = with(was, l)
				seen["off"]++
			case api.ErrArg, api.ErrBig:
				seen["refused"]++
			default:
				t.Fatal(e)
			}
			for range r.Intn(3) {
				d.Fall(anyKeep(r, d.Pending()))
				d.Fuel(r.Intn(len(l) + 4))
				if _, e := redo.Open(d); numberOf(e) == api.ErrOff {
					seen["off again"]++
				} else if e != nil {
					t.Fatal(e)
				}
			}
			d.Fall(anyKeep(r, d.Pending()))
			x = opened(t, d)
			got := pagesOf(t, x)
			if !slices.Equal(got, was) && !slices.Equal(got, now) {
				t.Fatalf("behind %v some of the pages are changed, and not all", l)
			}
			if slices.Equal(got, now) && !slices.Equal(was, now) {
				seen["redone"]++
			}
			was = got
		}
	}
	for _, kind := range slices.Sorted(maps.Keys(seen)) {
		if seen[kind] < 100 {
			t.Errorf("%s: %d times only", kind, seen[kind])
		}
	}
	if len(seen) != 5 {
		t.Error(seen)
	}
}
