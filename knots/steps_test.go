package knots_test

import (
	"slices"
	"testing"
	"time"

	"tambour/knots"
)

// many is how many things a big question has. Steps in the order of its square would take hours.
const many = 1000000

// soon fails where the calls of do take much longer than what is that big may.
func soon(t *testing.T, why string, do func()) {
	t.Helper()
	begun := time.Now()
	do()
	if d := time.Since(begun); d > 20*time.Second {
		t.Errorf("%s: %v", why, d)
	}
}

// listed are what f says of each number below n.
func listed[T any](n int, f func(int) T) []T {
	out := make([]T, n)
	for i := range out {
		out[i] = f(i)
	}
	return out
}

func itself(i int) int {
	return i
}

// big holds both calls on big edges against what f says of each thing's knot and, of those in which there is an order,
// against that order; they are told from their end on too.
func big(t *testing.T, why string, n int, edges [][2]int, f func(int) int, line []int) {
	t.Helper()
	want := listed(n, f)
	for range 2 {
		soon(t, why, func() {
			if l := knots.Knots(n, edges); !slices.Equal(l, want) {
				t.Errorf("%s: Knots: %d", why, len(l))
			}
			if l, ok := knots.Sort(n, edges); ok != (line != nil) || !slices.Equal(l, line) {
				t.Errorf("%s: Sort: %d, %v", why, len(l), ok)
			}
		})
		slices.Reverse(edges)
	}
}

// up is a chain that rises, over n things, first the first one.
func up(first, n int) [][2]int {
	return listed(n-1, func(i int) [2]int { return [2]int{first + i, first + i + 1} })
}

// down is the same chain, against its order.
func down(first, n int) [][2]int {
	return listed(n-1, func(i int) [2]int { return [2]int{first + i + 1, first + i} })
}

func backward(n int) []int {
	return listed(n, func(i int) int { return n - 1 - i })
}

// P8.1, P8.2, P0: long chains.
func TestLongChains(t *testing.T) {
	big(t, "up", many, up(0, many), itself, listed(many, itself))
	big(t, "down", many, down(0, many), itself, backward(many))
	big(t, "both ways", many, slices.Concat(up(0, many), down(0, many)), func(int) int { return 0 }, nil)
	big(t, "up, and its end to itself", many, append(up(0, many), [2]int{many - 1, many - 1}), itself, nil)
	const half = many / 2
	middle := func(i int) int { return min(i, half) }
	big(t, "up, and back to the middle", many, append(up(0, many), [2]int{many - 1, half}), middle, nil)
	big(t, "down, and up from the end to the middle", many, append(down(0, many), [2]int{0, half}), func(i int) int {
		if i <= half {
			return 0
		}
		return i
	}, nil)
	big(t, "up in steps of one and of two", many, slices.Concat(up(0, many), listed(many-2, func(i int) [2]int { return [2]int{i, i + 2} })), itself, listed(many, itself))
}

// P8.1, P8.2, P0: long rings, alone, joined and in rows.
func TestLongRings(t *testing.T) {
	zero := func(int) int { return 0 }
	ring := append(up(0, many), [2]int{many - 1, 0})
	big(t, "a ring", many, ring, zero, nil)
	big(t, "a ring, the other way", many, append(down(0, many), [2]int{0, many - 1}), zero, nil)
	big(t, "a ring out of order", many, listed(many, func(i int) [2]int { return [2]int{i * 7919 % many, (i + 1) * 7919 % many} }), zero, nil)
	big(t, "a ring and edges far back", many, slices.Concat(ring, listed(many, func(i int) [2]int { return [2]int{i, i / 2} })), zero, nil)
	const half = many / 2
	two := slices.Concat(up(0, half), up(half, half), [][2]int{{half - 1, 0}, {many - 1, half}, {half / 2, half}})
	big(t, "two rings, one edge", many, two, func(i int) int { return i / half * half }, nil)
	big(t, "two rings, edges both ways", many, append(two, [2]int{many - 1, half / 3}), zero, nil)
	var row [][2]int
	for i := 0; i < many; i += 4 {
		row = append(row, [2]int{i + 2, i + 3}, [2]int{i + 3, i}, [2]int{i, i + 1}, [2]int{i + 1, i + 2})
		if i > 0 {
			row = append(row, [2]int{i - 1, i + 2}, [2]int{i - 3, i + 1})
		}
	}
	big(t, "rings in a row", many, row, func(i int) int { return i / 4 * 4 }, nil)
	big(t, "rings in a row, and back", many, append(row, [2]int{many - 2, 1}), zero, nil)
}

// P8.1, P8.2, P0: one thing with edges to all or from all.
func TestStars(t *testing.T) {
	out := listed(many-1, func(i int) [2]int { return [2]int{0, i + 1} })
	in := listed(many-1, func(i int) [2]int { return [2]int{i + 1, 0} })
	big(t, "from the first", many, out, itself, listed(many, itself))
	big(t, "to the first", many, in, itself, append(listed(many-1, func(i int) int { return i + 1 }), 0))
	big(t, "both", many, slices.Concat(out, in), func(int) int { return 0 }, nil)
	last := listed(many-1, func(i int) [2]int { return [2]int{many - 1, i} })
	big(t, "from the last", many, last, itself, append([]int{many - 1}, listed(many-1, itself)...))
	big(t, "from the last, and a chain of all", many, slices.Concat(last, up(0, many-1)), itself, append([]int{many - 1}, listed(many-1, itself)...))
}

// P8.1, P8.2: few things, many edges.
func TestManyEdges(t *testing.T) {
	const few = 1200
	var rising, all [][2]int
	for i := range few {
		for j := range few {
			if i < j {
				rising = append(rising, [2]int{i, j})
			}
			all = append(all, [2]int{i, j})
		}
	}
	big(t, "all that rise", few, rising, itself, listed(few, itself))
	big(t, "all to all", few, all, func(int) int { return 0 }, nil)
	big(t, "one edge told often", 3, slices.Repeat([][2]int{{2, 0}}, many), itself, numbers("1 2 0"))
	big(t, "one to itself, told often", 3, slices.Repeat([][2]int{{1, 1}}, many), itself, nil)
	big(t, "two, told often", 3, slices.Repeat([][2]int{{2, 1}, {1, 2}}, many), func(i int) int { return min(i, 1) }, nil)
	big(t, "edges that name no thing", 3, slices.Repeat([][2]int{{-1, 0}, {3, 2}, {1, 3}, {1, -1}}, many), itself, numbers("0 1 2"))
}

// P8.1, P8.2: many things, few edges.
func TestManyThings(t *testing.T) {
	const n = 20 * many
	all := listed(n, itself)
	big(t, "no edges", n, nil, itself, all)
	turned := append(slices.Clone(all[1:]), 0)
	big(t, "one edge", n, [][2]int{{n - 1, 0}}, itself, turned)
	big(t, "a ring of the outermost", n, [][2]int{{n - 1, 0}, {0, n - 1}}, func(i int) int { return i % (n - 1) }, nil)
}
