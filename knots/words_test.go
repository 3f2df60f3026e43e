package knots_test

import (
	"math/rand"
	"slices"
	"testing"

	"tambour/knots"
)

// comes says in the chapter's words from which thing one comes to which: it goes on as long as there is a way to add.
func comes(n int, edges [][2]int) [][]bool {
	out := make([][]bool, max(n, 0))
	for i := range out {
		out[i] = make([]bool, n)
	}
	names := func(x int) bool { return x >= 0 && x < n }
	for grown := true; grown; {
		grown = false
		for _, e := range edges {
			if !names(e[0]) || !names(e[1]) {
				continue
			}
			for i := range out {
				if (i == e[0] || out[i][e[0]]) && !out[i][e[1]] {
					out[i][e[1]], grown = true, true
				}
			}
		}
	}
	return out
}

// knotsOf says in the chapter's words what Knots answers.
func knotsOf(ways [][]bool) []int {
	var out []int
	for i := range ways {
		least := i
		for j := i - 1; j >= 0; j-- {
			if ways[i][j] && ways[j][i] {
				least = j
			}
		}
		out = append(out, least)
	}
	return out
}

// sortOf says in the chapter's words what Sort answers: a thing may be told, if all are from which an edge comes to it.
func sortOf(n int, edges [][2]int) ([]int, bool) {
	var out []int
	for len(out) < n {
		next := -1
		for i := n - 1; i >= 0; i-- {
			waits := func(e [2]int) bool {
				return e[1] == i && e[0] >= 0 && e[0] < n && !slices.Contains(out, e[0])
			}
			if !slices.Contains(out, i) && !slices.ContainsFunc(edges, waits) {
				next = i
			}
		}
		if next < 0 {
			return nil, false
		}
		out = append(out, next)
	}
	return out, true
}

// asTheWordsSay holds each call against them.
func asTheWordsSay(t *testing.T, n int, edges [][2]int) {
	t.Helper()
	was := slices.Clone(edges)
	ways := comes(n, edges)
	if l, want := knots.Knots(n, edges), knotsOf(ways); !slices.Equal(l, want) {
		t.Errorf("Knots(%d, %v) = %v, want %v", n, edges, l, want)
	}
	l, ok := knots.Sort(n, edges)
	if want, may := sortOf(n, edges); ok != may || !slices.Equal(l, want) {
		t.Errorf("Sort(%d, %v) = %v, %v, want %v, %v", n, edges, l, ok, want, may)
	}
	ring := false
	for i := range ways {
		ring = ring || ways[i][i]
	}
	if ring == ok {
		t.Errorf("Sort(%d, %v): %v, though there is a ring: %v", n, edges, ok, ring)
	}
	if !slices.Equal(edges, was) {
		t.Errorf("%v is %v now", was, edges)
	}
}

// alikeInAllOrders holds what is said of edges told in other orders against each other.
func alikeInAllOrders(t *testing.T, n int, edges [][2]int) {
	t.Helper()
	ties := knots.Knots(n, edges)
	line, ok := knots.Sort(n, edges)
	for _, told := range tellings(n, edges) {
		if l := knots.Knots(n, told); !slices.Equal(l, ties) {
			t.Errorf("Knots(%d, %v) = %v, but of %v %v", n, edges, ties, told, l)
		}
		if l, may := knots.Sort(n, told); may != ok || !slices.Equal(l, line) {
			t.Errorf("Sort(%d, %v) = %v, %v, but of %v %v, %v", n, edges, line, ok, told, l, may)
		}
	}
}

// some are those edges between n things whose bits are set.
func some(n, bits int) [][2]int {
	var out [][2]int
	for i := range n {
		for j := range n {
			if bits&(1<<(i*n+j)) != 0 {
				out = append(out, [2]int{i, j})
			}
		}
	}
	return out
}

// P8.1: all edges between up to four things.
func TestSmallThings(t *testing.T) {
	for n := 1; n <= 4; n++ {
		for bits := range 1 << (n * n) {
			edges := some(n, bits)
			if bits%2 == 1 {
				slices.Reverse(edges)
			}
			asTheWordsSay(t, n, edges)
			if n < 4 || bits%64 == 7 {
				alikeInAllOrders(t, n, edges)
			}
		}
	}
}

// orders are all orders of these things, the least first.
func orders(things []int) [][]int {
	if len(things) == 0 {
		return [][]int{nil}
	}
	var out [][]int
	for i, a := range things {
		for _, rest := range orders(slices.Concat(things[:i], things[i+1:])) {
			out = append(out, append([]int{a}, rest...))
		}
	}
	return out
}

// inOrder says whether of each edge the first stands ahead of the second.
func inOrder(line []int, edges [][2]int) bool {
	return !slices.ContainsFunc(edges, func(e [2]int) bool {
		return slices.Index(line, e[0]) >= slices.Index(line, e[1])
	})
}

// P8.1: of all orders in which of each edge the first stands ahead Sort's is the least, where there is one.
func TestSortLeastOfAllOrders(t *testing.T) {
	r := rand.New(rand.NewSource(8))
	for n := 1; n <= 6; n++ {
		all := make([]int, n)
		for i := range all {
			all[i] = i
		}
		lines := orders(all)
		for range 400 {
			var edges [][2]int
			for range r.Intn(2 * n) {
				e := [2]int{r.Intn(n), r.Intn(n)}
				if e[0] < e[1] || r.Intn(3) > 0 {
					edges = append(edges, e)
				}
			}
			var want []int
			if at := slices.IndexFunc(lines, func(l []int) bool { return inOrder(l, edges) }); at >= 0 {
				want = lines[at]
			}
			if l, ok := knots.Sort(n, edges); ok != (want != nil) || !slices.Equal(l, want) {
				t.Errorf("Sort(%d, %v) = %v, %v, want %v", n, edges, l, ok, want)
			}
		}
	}
}

// anyEdges are some between n things, most of them along a line of its own; of a hundred so many go any way, beside n too.
func anyEdges(r *rand.Rand, n, mistakes int) [][2]int {
	line := r.Perm(n)
	var out [][2]int
	for range r.Intn(3 * n) {
		i, j := r.Intn(n), r.Intn(n)
		if r.Intn(100) < mistakes {
			out = append(out, [2]int{r.Intn(n+4) - 2, r.Intn(n+4) - 2})
		} else if i != j {
			out = append(out, [2]int{line[min(i, j)], line[max(i, j)]})
		}
	}
	return out
}

// P8.1: thousands of edges of any kind.
func TestAnyEdges(t *testing.T) {
	r := rand.New(rand.NewSource(88))
	sorted := 0
	for i := range 3000 {
		n := 1 + r.Intn(20)
		edges := anyEdges(r, n, []int{0, 5, 50}[i%3])
		asTheWordsSay(t, n, edges)
		alikeInAllOrders(t, n, edges)
		if _, ok := knots.Sort(n, edges); ok {
			sorted++
		}
	}
	if sorted < 1200 || sorted > 2600 {
		t.Errorf("%d sorted", sorted)
	}
	for i := range 60 {
		asTheWordsSay(t, 120, anyEdges(r, 120, []int{0, 2, 60}[i%3]))
	}
}

// FuzzKnots reads edges from bytes: two of them an edge, so that some name no thing.
func FuzzKnots(f *testing.F) {
	for _, s := range []string{"", "\x02\x03\x03\x02", "\x02\x02", "\x03\x04\x04\x05\x05\x03\x05\x06", "\x00\x01\x02\x09", "\x06\x05\x05\x04\x04\x03"} {
		f.Add(4, s)
	}
	f.Fuzz(func(t *testing.T, n int, s string) {
		n = min(n, 20)
		var edges [][2]int
		for i := 1; i < min(len(s), 100); i += 2 {
			edges = append(edges, [2]int{int(s[i-1]) - 2, int(s[i]) - 2})
		}
		asTheWordsSay(t, n, edges)
		if n > 0 {
			alikeInAllOrders(t, n, edges)
		}
	})
}
