package poset_test

import (
	"fmt"
	"math"
	"math/rand"
	"slices"
	"strconv"
	"strings"
	"testing"

	"tambour/poset"
)

// numbers reads numbers that are parted by spaces.
func numbers(s string) []int {
	var out []int
	for _, w := range strings.Fields(s) {
		n, e := strconv.Atoi(w)
		if e != nil {
			panic(e)
		}
		out = append(out, n)
	}
	return out
}

// listsOf reads lists of numbers: "0, 1 2, 3"; no list is empty.
func listsOf(s string) [][]int {
	var out [][]int
	for l := range strings.SplitSeq(s, ",") {
		if n := numbers(l); len(n) > 0 {
			out = append(out, n)
		}
	}
	return out
}

// edgesOf reads edges as the chapter tells them: "0 1, 1 2".
func edgesOf(s string) [][2]int {
	var out [][2]int
	for _, l := range listsOf(s) {
		out = append(out, [2]int(l))
	}
	return out
}

// beside are numbers of no thing of n.
func beside(n int) []int {
	out := []int{-1, -2, -n, n, n + 1, 2 * n, math.MinInt, math.MaxInt, math.MinInt + 1, 1 << 32, -1 << 32}
	return slices.DeleteFunc(out, func(a int) bool { return a >= 0 && a < n })
}

// strangers are edges that name no thing of n on one side or on both.
func strangers(n int) [][2]int {
	var out [][2]int
	for _, x := range beside(n) {
		out = append(out, [2]int{x, x}, [2]int{x, 0}, [2]int{0, x}, [2]int{x, n - 1}, [2]int{n - 1, x}, [2]int{x, n}, [2]int{-1, x})
	}
	return out
}

// tellings are edge lists that say the same of n things: in other orders, told several times, among edges that name none
// and edges from things to themselves.
func tellings(n int, edges [][2]int) [][][2]int {
	back := slices.Clone(edges)
	slices.Reverse(back)
	half := len(edges) / 2
	mixed := strangers(n)
	for i := range n {
		mixed = append(mixed, [2]int{i, i})
	}
	mixed = append(mixed, edges...)
	r := rand.New(rand.NewSource(int64(len(edges))))
	r.Shuffle(len(mixed), func(i, j int) { mixed[i], mixed[j] = mixed[j], mixed[i] })
	return [][][2]int{back, slices.Concat(edges[half:], edges[:half]), slices.Repeat(edges, 3), slices.Concat(edges, back), slices.Concat(strangers(n), back), mixed}
}

// alikeInAllOrders holds what is said of edges told in other ways against each other, and of lists that tell the things
// that count in other orders.
func alikeInAllOrders(t *testing.T, n int, edges [][2]int, l []int) {
	t.Helper()
	o := poset.New(n, edges)
	runs, sides := o.Runs(l), o.Sides(l)
	for _, told := range tellings(n, edges) {
		p := poset.New(n, told)
		if r, s := p.Runs(l), p.Sides(l); !same(r, runs) || !same(s, sides) {
			t.Errorf("New(%d, %v), %v: %v, %v, but of %v: %v, %v", n, edges, l, runs, sides, told, r, s)
		}
		for a := range n {
			for b := range n {
				if o.Ahead(a, b) != p.Ahead(a, b) || o.Comparable(a, b) != p.Comparable(a, b) {
					t.Errorf("New(%d, %v) of %d, %d: not as of %v", n, edges, a, b, told)
				}
			}
		}
	}
	line := slices.Concat(runs...)
	back := slices.Clone(line)
	slices.Reverse(back)
	for _, told := range [][]int{line, back, slices.Sorted(slices.Values(line)), slices.Concat(line, back), slices.Concat(back, l), slices.Concat(beside(n), back, beside(n))} {
		if r, s := o.Runs(told), o.Sides(told); !same(r, runs) || !same(s, sides) {
			t.Errorf("New(%d, %v), %v: %v, %v, but of %v: %v, %v", n, edges, l, runs, sides, told, r, s)
		}
	}
}

// What may stand of two things: they are of one knot, the first is ahead, or behind, or they aren't comparable.
const (
	alike    = "="
	ahead    = "<"
	behind   = ">"
	unjoined = "|"
)

// related holds Ahead and Comparable, both ways, however the edges are told, against what the test says: pairs "0<1 1=2".
func related(t *testing.T, why string, n int, edges, want string) {
	t.Helper()
	for _, told := range append(tellings(n, edgesOf(edges)), edgesOf(edges)) {
		o := poset.New(n, told)
		pairs(t, n, told)
		for _, w := range strings.Fields(want) {
			at := strings.IndexAny(w, alike+ahead+behind+unjoined)
			a, b := numbers(w[:at])[0], numbers(w[at+1:])[0]
			got := []bool{o.Ahead(a, b), o.Ahead(b, a), o.Comparable(a, b), o.Comparable(b, a)}
			is := w[at : at+1]
			if !slices.Equal(got, []bool{is == ahead, is == behind, is != unjoined, is != unjoined}) {
				t.Errorf("%s: New(%d, %v): %s: %v", why, n, told, w, got)
			}
		}
	}
}

// answered holds a call on a list, however the edges are told, against what the test says.
func answered(t *testing.T, why string, call func(*poset.Order, []int) [][]int, n int, edges, l, want string) {
	t.Helper()
	for _, told := range append(tellings(n, edgesOf(edges)), edgesOf(edges)) {
		lists(t, n, told, numbers(l))
		if got := call(poset.New(n, told), numbers(l)); !same(got, listsOf(want)) {
			t.Errorf("%s: New(%d, %v), %s: %v, want %s", why, n, told, l, got, want)
		}
	}
}

func run(t *testing.T, why string, n int, edges, l, want string) {
	t.Helper()
	answered(t, "Runs: "+why, (*poset.Order).Runs, n, edges, l, want)
}

func side(t *testing.T, why string, n int, edges, l, want string) {
	t.Helper()
	answered(t, "Sides: "+why, (*poset.Order).Sides, n, edges, l, want)
}

const square = "0 1, 0 2, 1 3, 2 3"

// P9.1: the chapter's examples.
func TestExamples(t *testing.T) {
	for _, l := range orders(numbers("0 1 2 3"), 4) {
		if len(l) == 4 {
			run(t, "the chapter's", 4, square, strings.Trim(fmt.Sprint(l), "[]"), "0, 1 2, 3")
		}
	}
	side(t, "the chapter's", 4, square, "1 2", "1, 2")
	side(t, "the chapter's, turned", 4, square, "2 1", "1, 2")
}

// nothing holds each call on an order of no things.
func nothing(t *testing.T, why string, o *poset.Order) {
	t.Helper()
	for _, a := range []int{0, 1, -1, 7, math.MinInt, math.MaxInt} {
		for _, b := range []int{0, 1, -1, a, a - 1, a + 1} {
			if o.Ahead(a, b) || o.Comparable(a, b) {
				t.Errorf("%s: %d, %d", why, a, b)
			}
		}
		for _, l := range [][]int{nil, {}, {a}, {a, a}, {0, 1, a}} {
			if r, s := o.Runs(l), o.Sides(l); len(r) != 0 || len(s) != 0 {
				t.Errorf("%s: %v: %v, %v", why, l, r, s)
			}
		}
	}
}

// P9.1: of n below 1 there are no things, whatever the edges are; of a nil *Order neither.
func TestNoThings(t *testing.T) {
	nothing(t, "nil", nil)
	for _, n := range []int{0, -1, -2, -1000, math.MinInt32, math.MinInt, math.MinInt + 1} {
		for _, edges := range [][][2]int{nil, {}, {{0, 0}}, {{0, 1}, {1, 0}}, {{-1, -1}}, {{-1, -2}, {-2, -1}}, {{n, n}}, {{n, 0}, {0, n}}, {{-3, -2}, {-2, -1}}, strangers(0)} {
			nothing(t, fmt.Sprintf("New(%d, %v)", n, edges), poset.New(n, edges))
		}
	}
}

// P9.1: one thing, and things without edges.
func TestNoEdges(t *testing.T) {
	related(t, "one thing", 1, "", "0=0 0|1 -1|0 -1|-1 1|1")
	run(t, "one thing", 1, "", "0", "0")
	side(t, "one thing", 1, "", "0", "0")
	related(t, "one thing, to itself", 1, "0 0", "0=0")
	run(t, "one thing, to itself", 1, "0 0", "0", "0")
	related(t, "two", 2, "", "0|1 0=0 1=1")
	run(t, "two", 2, "", "1 0", "0 1")
	side(t, "two", 2, "", "1 0", "0, 1")
	run(t, "seven", 7, "", "3 6 0 1 5 2 4", "0 1 2 3 4 5 6")
	side(t, "seven", 7, "", "3 6 0 1 5 2 4", "0, 1, 2, 3, 4, 5, 6")
	run(t, "one of seven", 7, "", "5", "5")
	run(t, "three of seven", 7, "", "6 2 5", "2 5 6")
	for n := 1; n <= 4; n++ {
		pairs(t, n, nil)
		lists(t, n, nil, orders(numbers("0 1 2 3")[:n], n)...)
	}
}

// P9.1: ahead along one edge and along many, and what nothing joins.
func TestAhead(t *testing.T) {
	related(t, "one edge", 2, "0 1", "0<1 0=0 1=1")
	related(t, "one edge back", 2, "1 0", "1<0 0>1")
	related(t, "a chain", 5, "0 1, 1 2, 2 3, 3 4", "0<1 0<2 0<4 1<4 3<4 4>0 2=2")
	related(t, "a chain that falls", 5, "4 3, 3 2, 2 1, 1 0", "4<0 4<3 1<0 3<1 0>3")
	related(t, "a chain out of order", 5, "2 4, 4 0, 0 3, 3 1", "2<1 2<4 4<3 0<1 1>4")
	related(t, "the square", 4, square, "0<1 0<2 0<3 1<3 2<3 1|2")
	related(t, "both behind one", 3, "0 1, 0 2", "0<1 0<2 1|2")
	related(t, "both ahead of one", 3, "0 2, 1 2", "0<2 1<2 0|1")
	related(t, "to and fro", 4, "0 1, 2 1, 2 3", "0<1 2<1 2<3 0|2 0|3 1|3")
	related(t, "two chains", 6, "0 2, 2 4, 1 3, 3 5", "0<4 1<5 0|1 0|5 2|3 4|5 1|4")
	related(t, "two chains and a rung", 6, "0 2, 2 4, 1 3, 3 5, 2 3", "0<5 0<3 2<5 1<5 0|1 4|5 4|3 1|4")
	related(t, "a way past the middle", 3, "0 1, 1 2, 0 2", "0<1 1<2 0<2")
	related(t, "one that nothing ties", 4, "0 1, 1 3", "0<3 2|0 2|1 2|3 2=2")
	related(t, "one ahead of itself, in a chain", 3, "0 1, 1 1, 1 2", "0<1 1<2 0<2 1=1")
	related(t, "numbers of no thing", 3, "0 1, 1 2, 2 3, -1 0, 3 4", "0<2 0|3 2|3 3|4 3|3 -1|0 -1|-1 -1|3 9|0")
	related(t, "a way through no thing", 4, "0 9, 9 1, 0 -1, -1 2, 2 4, 4 3", "0|1 0|2 2|3 0|9 9|1")
}

// P9.1: things of one knot are comparable, and neither is ahead of the other one; what is ahead of one of them is ahead of all.
func TestKnots(t *testing.T) {
	related(t, "two", 2, "0 1, 1 0", "0=1 0=0 1=1")
	related(t, "two, one of them to itself", 2, "0 1, 1 0, 1 1", "0=1 1=1")
	related(t, "three", 3, "0 1, 1 2, 2 0", "0=1 1=2 0=2")
	related(t, "three, out of order", 5, "4 1, 1 3, 3 4", "1=3 3=4 1=4 0|1 0|2")
	related(t, "a knot between", 4, "0 1, 1 2, 2 1, 2 3", "0<1 0<2 1=2 1<3 2<3 0<3")
	related(t, "a knot between, entered and left by one thing", 4, "0 1, 1 2, 2 1, 1 3", "0<2 2<3 0<3 1=2")
	related(t, "two knots", 4, "0 1, 1 0, 1 2, 2 3, 3 2", "0<2 0<3 1<2 1<3 0=1 2=3")
	related(t, "two knots, the greater ahead", 4, "0 1, 1 0, 3 0, 2 3, 3 2", "2<0 2<1 3<0 3<1 0=1 2=3")
	related(t, "two knots apart", 4, "0 3, 3 0, 1 2, 2 1", "0=3 1=2 0|1 0|2 3|1 3|2")
	related(t, "two knots that meet", 5, "0 1, 1 2, 2 0, 2 3, 3 4, 4 2", "0=4 1=3 0=3")
	related(t, "two knots behind one", 5, "4 0, 4 1, 0 2, 2 0, 1 3, 3 1", "4<0 4<3 0=2 1=3 0|1 2|3")
	related(t, "a ring of all, and edges across", 4, "0 1, 1 2, 2 3, 3 0, 0 2, 3 1", "0=2 1=3")
	related(t, "a ring through no thing", 3, "0 1, 1 3, 3 0", "0<1 0|2 1|3")
}

// P9.1: lists that tell nothing, one thing, things that aren't there, and things twice.
func TestLists(t *testing.T) {
	for _, edges := range []string{"", "0 1", square, "0 1, 1 0", "2 3, 3 2, 2 1"} {
		for _, f := range []func(*testing.T, string, int, string, string, string){run, side} {
			f(t, "nothing", 4, edges, "", "")
			f(t, "one thing", 4, edges, "2", "2")
			f(t, "the first", 4, edges, "0", "0")
			f(t, "the last", 4, edges, "3", "3")
			f(t, "twice", 4, edges, "2 2", "2")
			f(t, "often", 4, edges, "1 1 1 1 1", "1")
			f(t, "none that is there", 4, edges, "4 -1 9 -4 5", "")
			f(t, "one that is there", 4, edges, "4 -1 1 9 1 -4", "1")
		}
		o := poset.New(4, edgesOf(edges))
		lists(t, 4, edgesOf(edges), nil, []int{}, beside(4), append(beside(4), 3, 1, 0, 2))
		if r, s := o.Runs(nil), o.Sides(nil); len(r) != 0 || len(s) != 0 {
			t.Error(edges, r, s)
		}
		if r, s := o.Runs(beside(4)), o.Sides(beside(4)); len(r) != 0 || len(s) != 0 {
			t.Error(edges, r, s)
		}
	}
	run(t, "twice among others", 4, square, "3 1 0 1 3 2 0", "0, 1 2, 3")
	side(t, "twice among others", 4, "0 1, 2 3", "3 1 0 1 3 2 0", "0 1, 2 3")
	run(t, "none that is there among others", 4, square, "7 3 -1 2 1 4 0", "0, 1 2, 3")
	side(t, "none that is there among others", 4, square, "7 2 -1 1 4", "1, 2")
}

// P9.1: the order of Runs: again and again the least of those that have none of l ahead of them.
func TestRunsOrder(t *testing.T) {
	run(t, "a chain", 4, "0 1, 1 2, 2 3", "2 0 3 1", "0, 1, 2, 3")
	run(t, "a chain that falls", 4, "3 2, 2 1, 1 0", "2 0 3 1", "3, 2, 1, 0")
	run(t, "a chain out of order", 5, "2 4, 4 0, 0 3, 3 1", "0 1 2 3 4", "2, 4, 0, 3, 1")
	run(t, "side by side", 4, "", "2 0 3 1", "0 1 2 3")
	run(t, "two behind one", 3, "2 0, 2 1", "0 1 2", "2, 0 1")
	run(t, "two ahead of one", 3, "1 0, 2 0", "0 1 2", "1 2, 0")
	run(t, "the least that may be, not the least", 4, "3 0", "0 1 2 3", "1 2 3 0")
	run(t, "what comes free goes ahead of a greater one", 4, "1 0, 2 3", "0 1 2 3", "1 0 2 3")
	run(t, "what comes free later", 5, "4 0, 1 3", "0 1 2 3 4", "1 2 3 4 0")
	run(t, "it waits for all that are ahead", 5, "4 0, 2 0, 3 1", "0 1 2 3 4", "2 3 1 4 0")
	run(t, "two digits", 12, "11 2, 10 3", "11 10 3 2 9", "9 10 3 11 2")
}

// P9.1: what isn't in l joins what is, and holds nothing up.
func TestRunsThroughOthers(t *testing.T) {
	run(t, "the middle of a chain is left out", 5, "0 1, 1 2, 2 3, 3 4", "4 0", "0, 4")
	run(t, "the middle of a chain that falls", 5, "4 3, 3 2, 2 1, 1 0", "0 4", "4, 0")
	run(t, "the middle of the square", 4, square, "3 0", "0, 3")
	run(t, "one side of the square", 4, square, "3 1 0", "0, 1, 3")
	run(t, "the ends of the square are left out", 4, square, "2 1", "1 2")
	run(t, "one behind the greatest, which is left out", 4, "3 0", "2 1 0", "0 1 2")
	run(t, "one behind a long way, that is left out", 6, "5 4, 4 3, 3 0", "2 0 1", "0 1 2")
	run(t, "one behind a long way that begins in l", 6, "5 4, 4 3, 3 0", "2 0 1 5", "1 2 5 0")
	run(t, "through a lesser one", 5, "4 0, 0 3", "3 4 2", "2 4 3")
	run(t, "single through others", 7, "0 1, 0 2, 1 3, 2 3, 3 4, 4 5, 4 6", "0 1 2 4 5 6", "0, 1 2, 4, 5 6")
	run(t, "no single one: it was left out", 7, "0 1, 0 2, 1 3, 2 3, 3 4, 3 5, 4 6, 5 6", "1 2 4 5", "1 2 4 5")
	run(t, "joined through two ways of others", 6, "0 2, 2 5, 1 3, 3 5, 0 4, 4 5", "0 1 5", "0 1, 5")
	run(t, "through a knot", 6, "0 3, 3 4, 4 3, 4 1, 2 5", "0 1", "0, 1")
	run(t, "both ahead of one that is left out", 3, "0 2, 1 2", "0 1", "0 1")
	run(t, "both behind one that is left out", 3, "0 1, 0 2", "1 2", "1 2")
}

// P9.1: single things, and the sequences between them.
func TestRunsSingle(t *testing.T) {
	run(t, "two squares", 7, "0 1, 0 2, 1 3, 2 3, 3 4, 3 5, 4 6, 5 6", "0 1 2 3 4 5 6", "0, 1 2, 3, 4 5, 6")
	run(t, "begins and ends with several", 5, "0 2, 1 2, 2 3, 2 4", "4 3 2 1 0", "0 1, 2, 3 4")
	run(t, "three wide", 5, "0 1, 0 2, 0 3, 1 4, 2 4, 3 4", "0 1 2 3 4", "0, 1 2 3, 4")
	run(t, "a chain beside one", 5, "0 1, 1 2, 2 4, 0 3, 3 4", "0 1 2 3 4", "0, 1 2 3, 4")
	run(t, "a chain beside one, which stands in the middle", 5, "0 1, 1 3, 3 4, 0 2, 2 4", "0 1 2 3 4", "0, 1 2 3, 4")
	run(t, "a thing beside all", 4, "0 1, 1 2", "0 1 2 3", "0 1 2 3")
	run(t, "the least one beside all", 4, "1 2, 2 3", "0 1 2 3", "0 1 2 3")
	run(t, "without the thing beside all", 4, "0 1, 1 2", "0 1 2", "0, 1, 2")
	run(t, "no single one between four that aren't all joined", 4, "0 2, 0 3, 1 3", "0 1 2 3", "0 1 2 3")
	run(t, "two and two, all joined", 4, "0 2, 0 3, 1 2, 1 3", "0 1 2 3", "0 1 2 3")
	run(t, "a ladder", 6, "0 2, 1 2, 1 3, 2 4, 2 5, 3 5, 3 4", "0 1 2 3 4 5", "0 1 2 3 4 5")
	run(t, "comparable with its neighbours alone", 5, "0 1, 1 2, 0 3, 3 4", "0 1 2 3 4", "0, 1 2 3 4")
	run(t, "all but one stand ahead of it", 5, "0 3, 1 3, 2 4, 3 4", "0 1 2 3 4", "0 1 2 3, 4")
	run(t, "all but one stand behind it", 5, "0 1, 1 2, 1 3, 0 4", "0 1 2 3 4", "0, 1 2 3 4")
	run(t, "two single ones at the ends", 6, "4 5, 5 0, 5 1, 0 2, 1 2, 2 3", "0 1 2 3 4 5", "4, 5, 0 1, 2, 3")
}

// P9.1: of several things of one knot the first one in l counts.
func TestRunsKnots(t *testing.T) {
	run(t, "two, the first", 2, "0 1, 1 0", "0 1", "0")
	run(t, "two, the second", 2, "0 1, 1 0", "1 0", "1")
	run(t, "three", 4, "1 2, 2 3, 3 1, 0 1", "2 3 1 0", "0, 2")
	run(t, "three, another one first", 4, "1 2, 2 3, 3 1, 0 1", "0 3 2 1 3", "0, 3")
	run(t, "what isn't there doesn't count", 3, "0 1, 1 0, 1 2", "9 1 0 2", "1, 2")
	run(t, "a knot in the square", 5, "0 1, 1 4, 4 1, 0 2, 4 3, 2 3", "0 4 1 2 3", "0, 2 4, 3")
	run(t, "the number of the one that counts", 5, "0 1, 1 4, 4 1, 0 2, 4 3, 2 3", "1 4 2 3 0", "0, 1 2, 3")
	run(t, "two knots side by side", 4, "0 3, 3 0, 1 2, 2 1", "3 2 1 0", "2 3")
	run(t, "two knots side by side, others first", 4, "0 3, 3 0, 1 2, 2 1", "0 1 2 3", "0 1")
	run(t, "two knots in a row", 4, "0 3, 3 0, 1 2, 2 1, 2 3", "3 2 1 0", "2, 3")
	run(t, "a knot none of which is in l", 4, "0 1, 1 2, 2 1, 2 3", "3 0", "0, 3")
	side(t, "two, the first", 2, "0 1, 1 0", "0 1", "0")
	side(t, "two, the second", 2, "0 1, 1 0", "1 0", "1")
	side(t, "by the numbers of those that count", 4, "0 3, 3 0, 1 2, 2 1", "3 2 1 0", "2, 3")
	side(t, "by the numbers of those that count, others first", 4, "0 3, 3 0, 1 2, 2 1", "0 2 1 3", "0, 2")
	side(t, "sides joined by a knot", 5, "0 2, 2 4, 4 2, 4 1, 1 3", "3 0 4", "0 4 3")
}

// P9.1: one side, several, and things that are comparable only through others of l.
func TestSides(t *testing.T) {
	side(t, "a chain", 4, "0 1, 1 2, 2 3", "2 0 3 1", "0 1 2 3")
	side(t, "a chain that falls", 4, "3 2, 2 1, 1 0", "2 0 3 1", "3 2 1 0")
	side(t, "side by side", 4, "", "2 0 3 1", "0, 1, 2, 3")
	side(t, "two chains", 6, "0 2, 2 4, 1 3, 3 5", "5 4 3 2 1 0", "0 2 4, 1 3 5")
	side(t, "two chains that fall", 6, "4 2, 2 0, 5 3, 3 1", "5 4 3 2 1 0", "4 2 0, 5 3 1")
	side(t, "by their least numbers, not by their first", 6, "5 0, 1 2", "0 1 2 5", "5 0, 1 2")
	side(t, "by their least numbers, which stand last", 6, "4 3, 3 1, 5 2, 2 0", "0 1 2 3 4 5", "5 2 0, 4 3 1")
	side(t, "by their least numbers in l", 6, "0 5, 1 4, 2 3", "3 4 5 2", "2 3, 4, 5")
	side(t, "the square", 4, square, "3 2 1 0", "0 1 2 3")
	side(t, "the square's middle and its end", 4, square, "3 2 1", "1 2 3")
	side(t, "the square's middle and its beginning", 4, square, "2 1 0", "0 1 2")
	side(t, "through one ahead of both", 3, "2 0, 2 1", "0 1 2", "2 0 1")
	side(t, "through one behind both", 3, "1 0, 2 0", "0 1 2", "1 2 0")
	side(t, "to and fro", 6, "0 1, 2 1, 2 3, 4 3, 4 5", "5 4 3 2 1 0", "0 2 1 4 3 5")
	side(t, "to and fro, one left out", 6, "0 1, 2 1, 2 3, 4 3, 4 5", "5 4 3 1 0", "0 1, 4 3 5")
	side(t, "to and fro, one left out through which two are comparable", 6, "0 1, 1 2, 3 2, 3 4, 4 5", "0 2 3 5", "0 3 2 5")
	side(t, "one ahead of both is left out", 3, "0 1, 0 2", "2 1", "1, 2")
	side(t, "one behind both is left out", 3, "0 2, 1 2", "1 0", "0, 1")
	side(t, "the ends of a chain", 4, "0 1, 1 2, 2 3", "3 0", "0 3")
	side(t, "through others, each two of them left out", 8, "0 1, 1 2, 3 4, 4 5, 2 6, 5 6, 7 0, 7 3", "0 2 3 5", "0 2, 3 5")
	side(t, "one left out joins one side to another one", 5, "0 2, 1 2, 2 3, 2 4", "0 1 3 4", "0 1 3 4")
	side(t, "one left out that leads on to none", 5, "0 2, 1 2, 2 4", "0 1 3", "0, 1, 3")
	side(t, "one left out that comes from none", 5, "4 2, 2 0, 2 1", "0 1 3", "0, 1, 3")
	side(t, "a thing that no edge names", 4, "0 1, 1 3", "3 2 0", "0 3, 2")
	side(t, "two digits", 12, "11 2, 10 3", "11 10 3 2 9", "11 2, 10 3, 9")
}

// P9.1: n may be greater than any room: the things that edges or lists name alone are looked at.
func TestManyMoreThings(t *testing.T) {
	for _, n := range []int{math.MaxInt, math.MaxInt - 1, 1 << 62, 1 << 40, math.MaxInt32 + 1, math.MaxInt32} {
		last := n - 1
		o := poset.New(n, [][2]int{{last, 0}, {0, 7}, {7, n / 2}, {n / 2, 0}, {9, n}, {n, 10}, {-1, 8}})
		if !o.Ahead(last, n/2) || o.Ahead(n/2, last) || o.Ahead(0, 7) || o.Ahead(9, 10) || o.Ahead(last, last) || o.Ahead(9, n) || o.Ahead(11, 12) || o.Ahead(n/3, 11) || o.Ahead(11, n/3) || o.Ahead(n/3, 7) || o.Ahead(7, n/3) {
			t.Errorf("%d: Ahead", n)
		}
		if !o.Comparable(7, n/2) || !o.Comparable(0, last) || !o.Comparable(n/3, n/3) || o.Comparable(n/3, n/3+1) || o.Comparable(n, n) || o.Comparable(9, 10) || o.Comparable(0, 1) {
			t.Errorf("%d: Comparable", n)
		}
		l := []int{n / 2, last, 0, n, last - 1, 3, -1, 3}
		if r, want := o.Runs(l), [][]int{{3, last - 1, last, n / 2}}; !same(r, want) {
			t.Errorf("%d: %v, want %v", n, r, want)
		}
		if s, want := o.Sides(l), [][]int{{3}, {last, n / 2}, {last - 1}}; !same(s, want) {
			t.Errorf("%d: %v, want %v", n, s, want)
		}
		if r, want := o.Runs([]int{7, last}), [][]int{{last}, {7}}; !same(r, want) {
			t.Errorf("%d: %v, want %v", n, r, want)
		}
		if r := poset.New(n, nil).Runs([]int{last, 0}); !same(r, [][]int{{0, last}}) {
			t.Errorf("%d: %v", n, r)
		}
	}
}

// P9.1: edges that name no thing play no part, alone and as ways between things.
func TestStrangers(t *testing.T) {
	for n := 1; n <= 5; n++ {
		all := numbers("0 1 2 3 4")[:n]
		for _, e := range strangers(n) {
			for _, edges := range [][][2]int{{e}, {e, {e[1], e[0]}}, {e, {e[1], 0}, {0, e[0]}}, {e, {e[1], n - 1}, {n - 1, e[0]}}} {
				pairs(t, n, edges)
				lists(t, n, edges, all, append(beside(n), all...))
			}
		}
	}
}
