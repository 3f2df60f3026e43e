package poset_test

import (
	"math/rand"
	"slices"
	"testing"
	"time"

	"tambour/poset"
)

// many is how many things a big order has. Steps in the order of its square in each call would take minutes.
const many = 100000

// soon fails where the calls of do take much longer than what is that big may.
func soon(t *testing.T, why string, do func()) {
	t.Helper()
	begun := time.Now()
	do()
	if d := time.Since(begun); d > 20*time.Second {
		t.Errorf("%s: %v", why, d)
	}
}

// listed are what f says of each number below n.
func listed[T any](n int, f func(int) T) []T {
	out := make([]T, n)
	for i := range out {
		out[i] = f(i)
	}
	return out
}

// alone are lists of one thing each.
func alone(l ...int) [][]int {
	return listed(len(l), func(i int) []int { return l[i : i+1] })
}

// big holds Runs and Sides of a big list against what the test says; edges and list are told from their ends on, too.
func big(t *testing.T, why string, n int, edges [][2]int, l []int, runs, sides [][]int) {
	t.Helper()
	edges, l = slices.Clone(edges), slices.Clone(l)
	for range 2 {
		soon(t, why, func() {
			o := poset.New(n, edges)
			if r := o.Runs(l); !same(r, runs) {
				t.Errorf("%s: Runs: %d, want %d", why, len(r), len(runs))
			}
			if s := o.Sides(l); !same(s, sides) {
				t.Errorf("%s: Sides: %d, want %d", why, len(s), len(sides))
			}
		})
		slices.Reverse(edges)
		slices.Reverse(l)
	}
}

// up is a chain of n things that rises.
func up(n int) [][2]int {
	return listed(n-1, func(i int) [2]int { return [2]int{i, i + 1} })
}

// rising are the numbers below n.
func rising(n int) []int {
	return listed(n, func(i int) int { return i })
}

// P9.1, P9.2, P0: long chains and rings.
func TestLongChains(t *testing.T) {
	all := rising(many)
	fall := listed(many, func(i int) int { return many - 1 - i })
	down := listed(many-1, func(i int) [2]int { return [2]int{i + 1, i} })
	big(t, "up", many, up(many), all, alone(all...), [][]int{all})
	big(t, "down", many, down, all, alone(fall...), [][]int{fall})
	big(t, "its ends", many, up(many), []int{many - 1, 0}, [][]int{{0}, {many - 1}}, [][]int{{0, many - 1}})
	mixed := rand.New(rand.NewSource(9)).Perm(many)
	big(t, "out of order", many, listed(many-1, func(i int) [2]int { return [2]int{mixed[i], mixed[i+1]} }), all, alone(mixed...), [][]int{mixed})
	big(t, "a ring", many, append(up(many), [2]int{many - 1, 0}), slices.Concat([]int{5}, all, []int{5}), [][]int{{5}}, [][]int{{5}})
	o := poset.New(many, up(many))
	p := poset.New(many, append(up(many), [2]int{many - 1, many / 2}))
	if !o.Ahead(0, many-1) || o.Ahead(many-1, 0) || !o.Comparable(many-1, 1) || !p.Ahead(0, many-1) || p.Ahead(many/2, many-1) || !p.Comparable(many-2, many-1) {
		t.Error("chains: Ahead, Comparable")
	}
}

// P9.1, P9.2, P0: things side by side.
func TestWide(t *testing.T) {
	all := rising(many)
	big(t, "no edges", many, nil, all, [][]int{all}, alone(all...))
	out := listed(many-1, func(i int) [2]int { return [2]int{0, i + 1} })
	big(t, "all behind one", many, out, all, [][]int{{0}, all[1:]}, [][]int{all})
	big(t, "all behind one, which is left out", many, out, all[1:], [][]int{all[1:]}, alone(all[1:]...))
	in := listed(many-1, func(i int) [2]int { return [2]int{i, many - 1} })
	big(t, "all ahead of one", many, in, all, [][]int{all[:many-1], {many - 1}}, [][]int{all})
	big(t, "all ahead of one, which is left out", many, in, all[:many-1], [][]int{all[:many-1]}, alone(all[:many-1]...))
	pair := listed(many/2, func(i int) [2]int { return [2]int{2 * i, 2*i + 1} })
	big(t, "two by two", many, pair, all, [][]int{all}, listed(many/2, func(i int) []int { return all[2*i : 2*i+2] }))
	fro := append(pair, listed(many/2-1, func(i int) [2]int { return [2]int{2*i + 2, 2*i + 1} })...)
	zig := []int{0}
	for i := 1; i < many-1; i += 2 {
		zig = append(zig, i+1, i)
	}
	zig = append(zig, many-1)
	big(t, "to and fro", many, fro, all, [][]int{zig}, [][]int{zig})
}

// P9.1, P9.2, P0: many things ahead of as many, through one that is left out.
func TestThroughOne(t *testing.T) {
	const half = many / 2
	all := rising(2*half + 1)
	edges := listed(2*half, func(i int) [2]int {
		if i < half {
			return [2]int{i, 2 * half}
		}
		return [2]int{2 * half, i}
	})
	big(t, "with it", 2*half+1, edges, all, [][]int{all[:half], {2 * half}, all[half : 2*half]}, [][]int{slices.Concat(all[:half], all[2*half:], all[half:2*half])})
	big(t, "without it", 2*half+1, edges, all[:2*half], [][]int{all[:2*half]}, [][]int{all[:2*half]})
}

// P9.1, P9.2, P0: squares in a row, as of a text with many conflicts; each of them asked by itself too.
func TestSquares(t *testing.T) {
	const squares = many / 3
	var edges [][2]int
	runs := [][]int{{0}}
	for i := range squares {
		a := 3 * i
		edges = append(edges, [2]int{a, a + 1}, [2]int{a, a + 2}, [2]int{a + 1, a + 3}, [2]int{a + 2, a + 3})
		runs = append(runs, []int{a + 1, a + 2}, []int{a + 3})
	}
	all := rising(3*squares + 1)
	big(t, "squares", len(all), edges, all, runs, [][]int{all})
	soon(t, "each square", func() {
		o := poset.New(len(all), edges)
		for i := range squares {
			a := 3 * i
			if s := o.Sides([]int{a + 2, a + 1}); !same(s, [][]int{{a + 1}, {a + 2}}) {
				t.Errorf("square %d: %v", i, s)
				break
			}
			if !o.Ahead(a, a+3) || o.Ahead(a+1, a+2) || o.Comparable(a+1, a+2) {
				t.Errorf("square %d", i)
				break
			}
		}
	})
}

// P9.1, P0: few things and many edges, many things and few edges, and a list that is much longer than there are things.
func TestManyEdges(t *testing.T) {
	const few = 1000
	var edges [][2]int
	for i := range few {
		for j := i + 1; j < few; j++ {
			edges = append(edges, [2]int{i, j})
		}
	}
	all := rising(few)
	big(t, "all that rise", few, edges, all, alone(all...), [][]int{all})
	big(t, "one edge told often", 3, slices.Repeat([][2]int{{2, 0}}, 1000000), []int{0, 1, 2}, [][]int{{1, 2, 0}}, [][]int{{2, 0}, {1}})
	big(t, "one edge between many", 2000000, [][2]int{{1999999, 0}}, []int{0, 1999999}, [][]int{{1999999}, {0}}, [][]int{{1999999, 0}})
	big(t, "a long list", 4, edgesOf(square), slices.Repeat(numbers("3 9 1 -1 0 2"), 300000), listsOf("0, 1 2, 3"), listsOf("0 1 2 3"))
}
