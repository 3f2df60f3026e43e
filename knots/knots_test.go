package knots_test

import (
	"math"
	"math/rand"
	"slices"
	"strconv"
	"strings"
	"testing"

	"tambour/knots"
)

// numbers reads numbers that are parted by spaces.
func numbers(s string) []int {
	var out []int
	for _, w := range strings.Fields(s) {
		n, e := strconv.Atoi(w)
		if e != nil {
			panic(e)
		}
		out = append(out, n)
	}
	return out
}

// edgesOf reads edges as the chapter tells them: "0 1, 1 2".
func edgesOf(s string) [][2]int {
	var out [][2]int
	for e := range strings.SplitSeq(s, ",") {
		if n := numbers(e); len(n) > 0 {
			out = append(out, [2]int(n))
		}
	}
	return out
}

// within says whether an edge names things on both sides.
func within(n int, e [2]int) bool {
	return min(e[0], e[1]) >= 0 && max(e[0], e[1]) < n
}

// strangers are edges that name no thing of n on one side or on both.
func strangers(n int) [][2]int {
	var out [][2]int
	for _, x := range []int{-1, -2, -n, n, n + 1, 2 * n, math.MinInt, math.MaxInt, math.MinInt + 1, 1 << 32, -1 << 32} {
		out = append(out, [2]int{x, x}, [2]int{x, 0}, [2]int{0, x}, [2]int{x, n - 1}, [2]int{n - 1, x}, [2]int{x, n}, [2]int{-1, x})
	}
	return slices.DeleteFunc(out, func(e [2]int) bool { return within(n, e) })
}

// turns are all orders of a few edges, some of more.
func turns(edges [][2]int) [][][2]int {
	if len(edges) <= 1 {
		return [][][2]int{edges}
	}
	var out [][][2]int
	if len(edges) <= 4 {
		for i, e := range edges {
			for _, rest := range turns(slices.Concat(edges[:i], edges[i+1:])) {
				out = append(out, slices.Concat([][2]int{e}, rest))
			}
		}
		return out
	}
	back := slices.Clone(edges)
	slices.Reverse(back)
	half := len(edges) / 2
	out = append(out, edges, back, slices.Concat(edges[half:], edges[:half]), slices.Concat(back[half:], back[:half]))
	r := rand.New(rand.NewSource(int64(len(edges))))
	for range 4 {
		l := slices.Clone(edges)
		r.Shuffle(len(l), func(i, j int) { l[i], l[j] = l[j], l[i] })
		out = append(out, l)
	}
	return out
}

// tellings are edge lists that say the same of n things: in other orders, told several times, among edges that name none.
func tellings(n int, edges [][2]int) [][][2]int {
	out := turns(edges)
	other := strangers(n)
	var mixed [][2]int
	for i, e := range edges {
		mixed = append(mixed, other[i%len(other)], e, other[(3*i+1)%len(other)])
	}
	return append(out, slices.Concat(edges, edges), slices.Repeat(edges, 3), slices.Concat(other, edges), slices.Concat(edges, other), mixed)
}

// knotted holds Knots, however the edges are told, against what the test says.
func knotted(t *testing.T, why string, n int, edges, want string) {
	t.Helper()
	for _, told := range tellings(n, edgesOf(edges)) {
		asTheWordsSay(t, n, told)
		if l := knots.Knots(n, told); !slices.Equal(l, numbers(want)) {
			t.Errorf("%s: Knots(%d, %v) = %v, want %s", why, n, told, l, want)
		}
	}
}

// sorted holds Sort, however the edges are told, against what the test says.
func sorted(t *testing.T, why string, n int, edges, want string) {
	t.Helper()
	for _, told := range tellings(n, edgesOf(edges)) {
		asTheWordsSay(t, n, told)
		if l, ok := knots.Sort(n, told); !ok || !slices.Equal(l, numbers(want)) {
			t.Errorf("%s: Sort(%d, %v) = %v, %v, want %s", why, n, told, l, ok, want)
		}
	}
}

// unsorted holds Sort, however the edges are told, against that there is no order.
func unsorted(t *testing.T, why string, n int, edges string) {
	t.Helper()
	for _, told := range tellings(n, edgesOf(edges)) {
		asTheWordsSay(t, n, told)
		if l, ok := knots.Sort(n, told); ok || len(l) != 0 {
			t.Errorf("%s: Sort(%d, %v) = %v, %v, want nothing, false", why, n, told, l, ok)
		}
	}
}

// P8.1: the chapter's examples.
func TestExamples(t *testing.T) {
	knotted(t, "the chapter's", 4, "0 1, 1 2, 2 1, 2 3", "0 1 1 3")
	sorted(t, "the chapter's", 3, "2 0", "1 2 0")
	unsorted(t, "the chapter's", 2, "0 1, 1 0")
}

// P8.1, R2: of n below 1 there are no things, whatever the edges are; they stand in order.
func TestNoThings(t *testing.T) {
	for _, n := range []int{0, -1, -2, -1000, math.MinInt32, math.MinInt, math.MinInt + 1} {
		for _, edges := range [][][2]int{nil, {}, {{0, 0}}, {{0, 1}, {1, 0}}, {{-1, -1}}, {{-1, -2}, {-2, -1}}, {{n, n}}, {{n, 0}, {0, n}}, strangers(0)} {
			if l := knots.Knots(n, edges); len(l) != 0 {
				t.Errorf("Knots(%d, %v) = %v", n, edges, l)
			}
			if l, ok := knots.Sort(n, edges); !ok || len(l) != 0 {
				t.Errorf("Sort(%d, %v) = %v, %v", n, edges, l, ok)
			}
		}
	}
}

// P8.1: one thing, and things without edges.
func TestNoEdges(t *testing.T) {
	knotted(t, "one thing", 1, "", "0")
	sorted(t, "one thing", 1, "", "0")
	knotted(t, "one thing, ahead of itself", 1, "0 0", "0")
	unsorted(t, "one thing, ahead of itself", 1, "0 0")
	knotted(t, "two", 2, "", "0 1")
	sorted(t, "two", 2, "", "0 1")
	knotted(t, "seven", 7, "", "0 1 2 3 4 5 6")
	sorted(t, "seven", 7, "", "0 1 2 3 4 5 6")
}

// P8.1: edges that name no thing play no part, alone and as ways between things.
func TestStrangers(t *testing.T) {
	for n := 1; n <= 6; n++ {
		all := make([]int, n)
		for i := range all {
			all[i] = i
		}
		for _, e := range strangers(n) {
			for _, edges := range [][][2]int{{e}, {e, {e[1], e[0]}}, {e, {e[1], 0}, {0, e[0]}}, {e, {e[1], n - 1}, {n - 1, e[0]}}} {
				asTheWordsSay(t, n, edges)
				if slices.ContainsFunc(edges, func(e [2]int) bool { return within(n, e) }) {
					continue
				}
				if l := knots.Knots(n, edges); !slices.Equal(l, all) {
					t.Errorf("Knots(%d, %v) = %v", n, edges, l)
				}
				if l, ok := knots.Sort(n, edges); !ok || !slices.Equal(l, all) {
					t.Errorf("Sort(%d, %v) = %v, %v", n, edges, l, ok)
				}
			}
		}
	}
	knotted(t, "a ring through a number that is none", 3, "0 3, 3 1, 1 0", "0 1 2")
	sorted(t, "a ring through a number that is none", 3, "0 3, 3 1, 1 0", "1 0 2")
	knotted(t, "a ring through one below 0", 3, "0 1, 1 -1, -1 0", "0 1 2")
	sorted(t, "a ring through one below 0", 3, "0 1, 1 -1, -1 0", "0 1 2")
	knotted(t, "the last thing", 3, "2 0, 0 2, 3 1, 1 3", "0 1 0")
	unsorted(t, "the last thing", 3, "2 0, 0 2")
	sorted(t, "edges of numbers that are no things, from these to themselves", 3, "3 3, -1 -1, 2 1", "0 2 1")
}

// P8.1: things that are alone, and edges that make no knots.
func TestKnotsAlone(t *testing.T) {
	knotted(t, "one edge", 2, "0 1", "0 1")
	knotted(t, "one edge back", 2, "1 0", "0 1")
	knotted(t, "to themselves", 3, "0 0, 2 2", "0 1 2")
	knotted(t, "a chain", 5, "0 1, 1 2, 2 3, 3 4", "0 1 2 3 4")
	knotted(t, "a chain that falls", 5, "4 3, 3 2, 2 1, 1 0", "0 1 2 3 4")
	knotted(t, "two ways to one", 4, "0 1, 0 2, 1 3, 2 3", "0 1 2 3")
	knotted(t, "two ways to one, one shorter", 4, "0 1, 1 2, 2 3, 0 3", "0 1 2 3")
	knotted(t, "all that rise", 5, "0 1, 0 2, 0 3, 0 4, 1 2, 1 3, 1 4, 2 3, 2 4, 3 4", "0 1 2 3 4")
	knotted(t, "one to all", 5, "2 0, 2 1, 2 3, 2 4", "0 1 2 3 4")
	knotted(t, "all to one", 5, "0 2, 1 2, 3 2, 4 2", "0 1 2 3 4")
	knotted(t, "a lone one among knots", 5, "0 1, 1 0, 3 4, 4 3", "0 0 2 3 3")
}

// P8.1: rings, and what hangs on them.
func TestKnotsRings(t *testing.T) {
	knotted(t, "two", 2, "0 1, 1 0", "0 0")
	knotted(t, "two of three", 3, "1 2, 2 1", "0 1 1")
	knotted(t, "two, parted by one", 3, "0 2, 2 0", "0 1 0")
	knotted(t, "two, one of them ahead of itself", 2, "0 1, 1 0, 1 1", "0 0")
	knotted(t, "three", 3, "0 1, 1 2, 2 0", "0 0 0")
	knotted(t, "three, the other way", 3, "0 2, 2 1, 1 0", "0 0 0")
	knotted(t, "seven, out of order", 7, "3 6, 6 0, 0 5, 5 1, 1 4, 4 2, 2 3", "0 0 0 0 0 0 0")
	knotted(t, "a tail behind", 5, "1 2, 2 3, 3 1, 3 4, 4 0", "0 1 1 1 4")
	knotted(t, "a tail ahead", 5, "0 4, 4 1, 1 2, 2 3, 3 1", "0 1 1 1 4")
	knotted(t, "a way past it", 4, "0 1, 1 2, 2 1, 2 3, 0 3", "0 1 1 3")
	knotted(t, "two rings that share a thing", 5, "0 1, 1 2, 2 0, 2 3, 3 4, 4 2", "0 0 0 0 0")
	knotted(t, "three rings that share a thing", 7, "3 0, 0 3, 3 5, 5 6, 6 3, 3 1, 1 4, 4 3", "0 0 2 0 0 0 0")
	knotted(t, "two rings, one edge", 4, "0 1, 1 0, 1 2, 2 3, 3 2", "0 0 2 2")
	knotted(t, "two rings, one edge back", 4, "0 1, 1 0, 2 1, 2 3, 3 2", "0 0 2 2")
	knotted(t, "two rings, several edges one way", 6, "0 1, 1 2, 2 0, 3 4, 4 5, 5 3, 0 3, 1 4, 2 5, 0 5", "0 0 0 3 3 3")
	knotted(t, "two rings, edges both ways", 4, "0 1, 1 0, 2 3, 3 2, 1 2, 3 0", "0 0 0 0")
	knotted(t, "two rings, edges both ways through another thing", 5, "0 1, 1 0, 2 3, 3 2, 1 4, 4 2, 3 0", "0 0 0 0 0")
	knotted(t, "two rings apart", 6, "0 3, 3 0, 1 5, 5 1", "0 1 2 0 4 1")
	knotted(t, "rings in a row", 8, "0 1, 1 0, 1 2, 2 3, 3 2, 3 4, 4 5, 5 4, 5 6, 6 7, 7 6", "0 0 2 2 4 4 6 6")
	knotted(t, "rings in a row, and back", 8, "0 1, 1 0, 1 2, 2 3, 3 2, 3 4, 4 5, 5 4, 5 6, 6 7, 7 6, 6 0", "0 0 0 0 0 0 0 0")
	knotted(t, "rings in a row, and back to the second", 8, "0 1, 1 0, 1 2, 2 3, 3 2, 3 4, 4 5, 5 4, 5 6, 6 7, 7 6, 6 3", "0 0 2 2 2 2 2 2")
	knotted(t, "a ring with a shorter way", 5, "0 1, 1 2, 2 3, 3 4, 4 0, 1 3", "0 0 0 0 0")
	knotted(t, "all to all", 4, "0 1, 0 2, 0 3, 1 0, 1 2, 1 3, 2 0, 2 1, 2 3, 3 0, 3 1, 3 2", "0 0 0 0")
}

// P8.1: the least thing of a knot is told, wherever one comes into it and whenever that thing is found.
func TestKnotsLeast(t *testing.T) {
	knotted(t, "found last", 5, "0 4, 4 3, 3 2, 2 1, 1 4", "0 1 1 1 1")
	knotted(t, "found last, off the ring's way", 6, "0 5, 5 4, 4 5, 4 3, 3 2, 2 4, 2 1, 1 2", "0 1 1 1 1 1")
	knotted(t, "found in the middle", 5, "0 3, 3 1, 1 4, 4 2, 2 3", "0 1 1 1 1")
	knotted(t, "found first", 5, "0 1, 1 4, 4 3, 3 2, 2 1", "0 1 1 1 1")
	knotted(t, "two knots, each found from its greatest", 6, "0 5, 5 2, 2 5, 0 4, 4 1, 1 4", "0 1 2 3 1 2")
	knotted(t, "a knot behind another one's way", 6, "0 3, 3 5, 5 3, 3 4, 4 2, 2 4, 4 1", "0 1 2 3 2 3")
	knotted(t, "an edge to a knot that was told", 6, "0 2, 2 1, 1 2, 3 1, 3 4, 4 3, 4 2, 5 3", "0 1 1 3 3 5")
	knotted(t, "an edge to a thing that is met, but in no ring with it", 4, "0 1, 0 2, 1 2, 2 3, 3 2", "0 1 2 2")
}

// P8.1: again and again the least of those that may be: of several orders it is that one.
func TestSortLeast(t *testing.T) {
	sorted(t, "one edge", 2, "0 1", "0 1")
	sorted(t, "one edge back", 2, "1 0", "1 0")
	sorted(t, "the first behind the last", 4, "3 0", "1 2 3 0")
	sorted(t, "two behind the last", 4, "3 0, 3 1", "2 3 0 1")
	sorted(t, "all behind the last", 4, "3 0, 3 1, 3 2", "3 0 1 2")
	sorted(t, "all ahead of the first", 4, "1 0, 2 0, 3 0", "1 2 3 0")
	sorted(t, "a chain", 4, "0 1, 1 2, 2 3", "0 1 2 3")
	sorted(t, "a chain that falls", 4, "3 2, 2 1, 1 0", "3 2 1 0")
	sorted(t, "a chain out of order", 5, "2 4, 4 0, 0 3, 3 1", "2 4 0 3 1")
	sorted(t, "one that comes free goes ahead of a greater one that was free", 4, "1 0, 2 3", "1 0 2 3")
	sorted(t, "one that comes free later goes ahead of greater ones", 6, "4 0, 3 5", "1 2 3 4 0 5")
	sorted(t, "free ones between ties", 8, "6 1, 1 7, 7 3", "0 2 4 5 6 1 7 3")
	sorted(t, "not by layers", 5, "0 4, 4 1, 3 2", "0 3 2 4 1")
	sorted(t, "not against the order from behind", 5, "3 0, 1 4", "1 2 3 0 4")
	sorted(t, "waits for all that are ahead", 5, "4 0, 2 0, 3 1", "2 3 1 4 0")
	sorted(t, "two ways to one", 4, "3 1, 3 2, 1 0, 2 0", "3 1 2 0")
	sorted(t, "two chains", 6, "5 3, 3 1, 4 2, 2 0", "4 2 0 5 3 1")
	sorted(t, "all that fall", 4, "3 2, 3 1, 3 0, 2 1, 2 0, 1 0", "3 2 1 0")
	sorted(t, "an edge told often", 3, "2 0, 2 0, 2 0, 1 0, 2 0", "1 2 0")
	sorted(t, "two digits", 12, "11 2, 10 3", "0 1 4 5 6 7 8 9 10 3 11 2")
}

// P8.1, R2: nothing and false, where there is no order, whatever else could be told.
func TestSortNone(t *testing.T) {
	unsorted(t, "itself, among others", 3, "1 1")
	unsorted(t, "the last, itself", 3, "2 2")
	unsorted(t, "itself, at the end of a chain", 4, "0 1, 1 2, 2 3, 3 3")
	unsorted(t, "itself, at the beginning of a chain", 4, "0 0, 0 1, 1 2, 2 3")
	unsorted(t, "all of them", 3, "0 0, 1 1, 2 2")
	unsorted(t, "three", 3, "0 1, 1 2, 2 0")
	unsorted(t, "a ring behind a chain", 5, "0 1, 1 2, 2 3, 3 4, 4 2")
	unsorted(t, "a ring ahead of a chain", 5, "0 1, 1 0, 1 2, 2 3, 3 4")
	unsorted(t, "a ring by itself", 6, "0 1, 1 2, 4 5, 5 4")
	unsorted(t, "two rings", 5, "0 1, 1 0, 3 4, 4 3")
	unsorted(t, "two rings that share a thing", 5, "0 1, 1 2, 2 0, 2 3, 3 4, 4 2")
	unsorted(t, "all to all", 3, "0 1, 0 2, 1 0, 1 2, 2 0, 2 1")
	unsorted(t, "a ring of the greatest", 9, "7 8, 8 7")
}

// P8.1, P0: a number of things for which there is no room: a ring among them is a ring yet, and no call panics.
func TestTooManyThings(t *testing.T) {
	for _, n := range []int{math.MaxInt, math.MaxInt - 1, 1 << 62, 1 << 40, math.MaxInt32 + 1} {
		for _, edges := range [][][2]int{{{5, 5}}, {{n - 1, n - 1}}, {{n - 1, 0}, {0, n - 1}}, {{3, 1}, {n / 2, n - 2}, {n - 2, 3}, {3, n / 2}}} {
			if l, ok := knots.Sort(n, edges); ok || len(l) != 0 {
				t.Errorf("Sort(%d, %v) = %d, %v", n, edges, len(l), ok)
			}
			knots.Knots(n, edges)
		}
		knots.Knots(n, nil)
		knots.Sort(n, nil)
		knots.Sort(n, [][2]int{{n - 1, 0}, {0, 1}})
	}
}
