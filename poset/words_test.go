package poset_test

import (
	"fmt"
	"math/rand"
	"slices"
	"testing"

	"tambour/poset"
)

// words answers in the chapter's words: comes says from which thing one comes to which.
type words struct {
	n     int
	comes [][]bool
}

// wordsOf goes on as long as there is a way to add.
func wordsOf(n int, edges [][2]int) words {
	w := words{n: n, comes: make([][]bool, max(n, 0))}
	for i := range w.comes {
		w.comes[i] = make([]bool, n)
	}
	for grown := true; grown; {
		grown = false
		for _, e := range edges {
			if !w.has(e[0]) || !w.has(e[1]) {
				continue
			}
			for i := range w.comes {
				if (i == e[0] || w.comes[i][e[0]]) && !w.comes[i][e[1]] {
					w.comes[i][e[1]], grown = true, true
				}
			}
		}
	}
	return w
}

func (w words) has(a int) bool {
	return a >= 0 && a < w.n
}

func (w words) ahead(a, b int) bool {
	return w.has(a) && w.has(b) && w.comes[a][b] && !w.comes[b][a]
}

// knot says whether two things are of one knot.
func (w words) knot(a, b int) bool {
	return w.has(a) && w.has(b) && (a == b || w.comes[a][b] && w.comes[b][a])
}

func (w words) comparable(a, b int) bool {
	return w.ahead(a, b) || w.ahead(b, a) || w.knot(a, b)
}

// taken are the things of l that are there, of several of one knot the first.
func (w words) taken(l []int) []int {
	var out []int
	for _, a := range l {
		if w.has(a) && !slices.ContainsFunc(out, func(b int) bool { return w.knot(a, b) }) {
			out = append(out, a)
		}
	}
	return out
}

// line is the order in which Runs tells them.
func (w words) line(l []int) []int {
	all := w.taken(l)
	var out []int
	for len(out) < len(all) {
		next := -1
		for _, a := range all {
			waits := func(b int) bool { return w.ahead(b, a) && !slices.Contains(out, b) }
			if !slices.Contains(out, a) && !slices.ContainsFunc(all, waits) && (next < 0 || a < next) {
				next = a
			}
		}
		out = append(out, next)
	}
	return out
}

func (w words) runs(l []int) [][]int {
	line := w.line(l)
	var out [][]int
	open := false
	for _, a := range line {
		single := !slices.ContainsFunc(line, func(b int) bool { return !w.comparable(a, b) })
		if single || !open {
			out = append(out, nil)
		}
		out[len(out)-1] = append(out[len(out)-1], a)
		open = !single
	}
	return out
}

// sides joins two sides as long as there is a thing on the one that is comparable with one on the other.
func (w words) sides(l []int) [][]int {
	line := w.line(l)
	side := map[int]int{}
	for _, a := range line {
		side[a] = a
	}
	for grown := true; grown; {
		grown = false
		for _, a := range line {
			for _, b := range line {
				if w.comparable(a, b) && side[b] < side[a] {
					side[a], grown = side[b], true
				}
			}
		}
	}
	var out [][]int
	for _, least := range slices.Sorted(slices.Values(line)) {
		if side[least] != least {
			continue
		}
		out = append(out, nil)
		for _, a := range line {
			if side[a] == least {
				out[len(out)-1] = append(out[len(out)-1], a)
			}
		}
	}
	return out
}

// same holds lists of lists against each other. None of them holds an empty one.
func same(a, b [][]int) bool {
	return slices.EqualFunc(a, b, func(x, y []int) bool { return len(x) > 0 && slices.Equal(x, y) })
}

// apart says whether P9.2 holds of runs and sides.
func (w words) apart(runs, sides [][]int) bool {
	for i, run := range runs {
		for _, a := range run {
			for _, b := range slices.Concat(runs[i+1:]...) {
				if !w.ahead(a, b) {
					return false
				}
			}
		}
	}
	for i, side := range sides {
		for _, a := range side {
			for _, b := range slices.Concat(sides[i+1:]...) {
				if w.comparable(a, b) {
					return false
				}
			}
		}
	}
	return true
}

// pairs holds Ahead and Comparable of all pairs of things, and of numbers beside them, against the words.
func pairs(t *testing.T, n int, edges [][2]int) {
	t.Helper()
	w, o := wordsOf(n, edges), poset.New(n, edges)
	for a := -2; a < n+2; a++ {
		for b := -2; b < n+2; b++ {
			if got, want := o.Ahead(a, b), w.ahead(a, b); got != want {
				t.Errorf("New(%d, %v).Ahead(%d, %d) = %v", n, edges, a, b, got)
			}
			if got, want := o.Comparable(a, b), w.comparable(a, b); got != want {
				t.Errorf("New(%d, %v).Comparable(%d, %d) = %v", n, edges, a, b, got)
			}
		}
	}
}

// lists holds Runs and Sides of lists against the words.
func lists(t *testing.T, n int, edges [][2]int, all ...[]int) {
	t.Helper()
	was := slices.Clone(edges)
	w, o := wordsOf(n, edges), poset.New(n, edges)
	for _, l := range all {
		had := slices.Clone(l)
		runs, sides := o.Runs(l), o.Sides(l)
		if want := w.runs(l); !same(runs, want) {
			t.Errorf("New(%d, %v).Runs(%v) = %v, want %v", n, edges, l, runs, want)
		}
		if want := w.sides(l); !same(sides, want) {
			t.Errorf("New(%d, %v).Sides(%v) = %v, want %v", n, edges, l, sides, want)
		}
		if !w.apart(runs, sides) {
			t.Errorf("New(%d, %v), %v: %v, %v: not apart", n, edges, l, runs, sides)
		}
		if !slices.Equal(l, had) || !slices.Equal(edges, was) {
			t.Errorf("%v, %v: %v, %v now", was, had, edges, l)
		}
	}
}

// some are those edges between n things whose bits are set.
func some(n, bits int) [][2]int {
	var out [][2]int
	for i := range n {
		for j := range n {
			if bits&(1<<(i*n+j)) != 0 {
				out = append(out, [2]int{i, j})
			}
		}
	}
	return out
}

// orders are all orders of up to so many of these numbers.
func orders(l []int, most int) [][]int {
	out := [][]int{nil}
	if most == 0 {
		return out
	}
	for i, a := range l {
		for _, rest := range orders(slices.Concat(l[:i], l[i+1:]), most-1) {
			out = append(out, append([]int{a}, rest...))
		}
	}
	return out
}

// P9.1, P9.2: all edges between up to four things, and all lists of them without a thing told twice.
func TestSmallThings(t *testing.T) {
	for n := 1; n <= 4; n++ {
		all := orders([]int{0, 1, 2, 3}[:n], n)
		for bits := range 1 << (n * n) {
			edges := some(n, bits)
			if bits%2 == 1 {
				slices.Reverse(edges)
			}
			pairs(t, n, edges)
			switch {
			case n < 4:
				lists(t, n, edges, all...)
			default:
				lists(t, n, edges, all[bits%len(all)], all[bits*7%len(all)], []int{3, 2, 1, 0}, []int{0, 1, 2, 3})
			}
		}
	}
}

// anyEdges are some between n things, most of them along a line of its own; of a hundred so many go any way, beside n too.
func anyEdges(r *rand.Rand, n, mistakes int) [][2]int {
	line := r.Perm(n)
	var out [][2]int
	for range r.Intn(2 * n) {
		i, j := r.Intn(n), r.Intn(n)
		if r.Intn(100) < mistakes {
			out = append(out, [2]int{r.Intn(n+4) - 2, r.Intn(n+4) - 2})
		} else if i != j {
			out = append(out, [2]int{line[min(i, j)], line[max(i, j)]})
		}
	}
	return out
}

// anyRows are edges between rows of a few things: from each thing of a row to most of the next one, so that there are
// single things and others.
func anyRows(r *rand.Rand, n int) [][2]int {
	line := r.Perm(n)
	var out [][2]int
	for from := 0; from < n; {
		to := min(from+1+r.Intn(3), n)
		next := min(to+1+r.Intn(3), n)
		for _, a := range line[from:to] {
			for _, b := range line[to:next] {
				if r.Intn(12) > 0 {
					out = append(out, [2]int{a, b})
				}
			}
			if r.Intn(12) == 0 {
				out = append(out, [2]int{line[from], a}, [2]int{a, line[from]})
			}
		}
		from = to
	}
	return out
}

// anyList are numbers of things, some twice, some that are none.
func anyList(r *rand.Rand, n int) []int {
	var out []int
	for range r.Intn(n + 3) {
		out = append(out, r.Intn(n))
		if r.Intn(20) == 0 {
			out = append(out, r.Intn(2*n+4)-n-2)
		}
	}
	return out
}

// P9.1, P9.2: thousands of edges and lists of any kind, and the same edges told in other ways.
func TestAnyEdges(t *testing.T) {
	r := rand.New(rand.NewSource(99))
	counts := map[string]int{}
	for i := range 6000 {
		n := 1 + r.Intn(14)
		edges := anyRows(r, n)
		if i%4 > 0 {
			edges = anyEdges(r, n, []int{0, 5, 40}[i%3])
		}
		l := anyList(r, n)
		if i%10 == 0 {
			pairs(t, n, edges)
		}
		lists(t, n, edges, l, r.Perm(n))
		alikeInAllOrders(t, n, edges, l)
		runs, sides := poset.New(n, edges).Runs(l), poset.New(n, edges).Sides(l)
		counts[fmt.Sprint("runs ", min(len(runs), 4))]++
		counts[fmt.Sprint("sides ", min(len(sides), 4))]++
	}
	for i := range 40 {
		edges := anyRows(r, 60)
		if i%2 == 0 {
			edges = anyEdges(r, 60, i/10)
		}
		lists(t, 60, edges, anyList(r, 60), r.Perm(60)[:30], r.Perm(60))
		pairs(t, 60, edges)
	}
	for i := range 5 {
		if counts[fmt.Sprint("runs ", i)] < 150 || counts[fmt.Sprint("sides ", i)] < 150 {
			t.Error(counts)
			break
		}
	}
}

// FuzzPoset reads edges and a list from bytes, so that some name no thing.
func FuzzPoset(f *testing.F) {
	for _, s := range []string{"", "\x02\x03\x03\x02", "\x02\x02", "\x02\x03\x02\x04\x03\x05\x04\x05", "\x00\x01\x02\x09", "\x06\x05\x05\x04\x04\x03"} {
		f.Add(4, s, "\x05\x02\x03\x04")
		f.Add(8, s, "\x02\x02\x09\x01\x08")
	}
	f.Fuzz(func(t *testing.T, n int, s, l string) {
		n = min(n, 20)
		var edges [][2]int
		for i := 1; i < min(len(s), 100); i += 2 {
			edges = append(edges, [2]int{int(s[i-1]) - 2, int(s[i]) - 2})
		}
		var things []int
		for _, b := range []byte(l)[:min(len(l), 60)] {
			things = append(things, int(b)-2)
		}
		pairs(t, n, edges)
		lists(t, n, edges, things)
		alikeInAllOrders(t, n, edges, things)
	})
}
