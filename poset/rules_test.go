package poset_test

import (
	"fmt"
	"slices"
	"sync"
	"testing"

	"tambour/poset"
)

// asked is one order, and one list for it.
type asked struct {
	n        int
	edges, l string
}

// unlike are questions of each kind.
func unlike() []asked {
	return []asked{
		{-1, "0 1", "0 1"}, {0, "", ""}, {1, "", "0"}, {1, "0 0", "0 0 1"}, {4, square, "3 2 1 0"}, {4, square, "1 2"},
		{4, "0 1, 1 2, 2 1, 2 3", "2 1 0 3 -1"}, {2, "0 1, 1 0", "1 0"}, {5, "", "4 2 0"}, {5, "4 2, 2 0, 3 1", "0 1 2 3 4"},
		{6, "5 4, 4 3, 3 5, 0 1, 1 0, 1 3", "5 0 4 1"}, {3, "2 1, 3 0, 0 -1, 1 1", "9 2 1 0"}, {7, "6 0, 6 0, 0 3, 9 9", "3 3 6 5"},
	}
}

// said tells all that an order of so many things says, of all pairs and of one list.
func said(o *poset.Order, n int, l []int) string {
	s := fmt.Sprint(o.Runs(l), o.Sides(l))
	for a := -1; a <= n; a++ {
		for b := -1; b <= n; b++ {
			s += fmt.Sprint(o.Ahead(a, b), o.Comparable(a, b))
		}
	}
	return s
}

// R4: what is handed in is not changed, the room behind it neither.
func TestArgumentsUnchanged(t *testing.T) {
	for _, a := range unlike() {
		edges, l := edgesOf(a.edges), numbers(a.l)
		edgesRoom := append(slices.Clone(edges), [2]int{0, 1}, [2]int{1, 0}, [2]int{-7, 7})
		listRoom := append(slices.Clone(l), 1, 0, -7)
		wasEdges, wasList := slices.Clone(edgesRoom), slices.Clone(listRoom)
		for range 3 {
			o := poset.New(a.n, edgesRoom[:len(edges)])
			o.Runs(listRoom[:len(l)])
			o.Sides(listRoom[:len(l)])
			o.Ahead(0, 1)
			o.Comparable(1, 0)
			if !slices.Equal(edgesRoom, wasEdges) || !slices.Equal(listRoom, wasList) {
				t.Errorf("%v: now %v, %v", a, edgesRoom, listRoom)
			}
		}
	}
}

// spoil writes to all lists, and to the room behind them.
func spoil(all [][]int) {
	for _, l := range all {
		l = l[:cap(l)]
		for i := range l {
			l[i] = -9
		}
	}
}

// R4: what is answered is memory of its own: whoever writes to a list, and behind it, changes neither what was handed in
// nor the order, nor another list of that answer or of another one.
func TestAnswersApart(t *testing.T) {
	for _, a := range unlike() {
		edges, l := edgesOf(a.edges), numbers(a.l)
		wasEdges, wasList := slices.Clone(edges), slices.Clone(l)
		o := poset.New(a.n, edges)
		want := said(o, a.n, l)
		var all [][]int
		for range 3 {
			all = slices.Concat(all, o.Runs(l), o.Sides(l))
		}
		for i := range all {
			spoil(all[i : i+1])
			for _, other := range all[i+1:] {
				if slices.Contains(other, -9) {
					t.Errorf("%v: two lists share memory", a)
				}
			}
		}
		runs := o.Runs(l)
		runs = runs[:cap(runs)]
		for i := range runs {
			runs[i] = []int{-9}
		}
		if got := said(o, a.n, l); got != want || !slices.Equal(edges, wasEdges) || !slices.Equal(l, wasList) {
			t.Errorf("%v: %s, and %s once its answers are spoilt; %v, %v", a, want, got, edges, l)
		}
	}
}

// R4, R7: what is handed in is not kept: an order and an answer stay, whatever becomes of it, and another order too.
func TestNotKept(t *testing.T) {
	for _, a := range unlike() {
		edges, l := edgesOf(a.edges), numbers(a.l)
		o := poset.New(a.n, edges)
		want := said(o, a.n, numbers(a.l))
		runs, sides := o.Runs(l), o.Sides(l)
		told := fmt.Sprint(runs, sides)
		for i := range edges {
			edges[i] = [2]int{edges[i][1], 0}
		}
		for i := range l {
			l[i] = 0
		}
		p := poset.New(a.n+3, edges)
		p.Runs([]int{2, 1, 0})
		if fmt.Sprint(runs, sides) != told || said(o, a.n, numbers(a.l)) != want {
			t.Errorf("%v: %s, and then %v, %v, %s", a, told, runs, sides, said(o, a.n, numbers(a.l)))
		}
		pairs(t, a.n+3, edges)
	}
}

// R7: one answer, however often it is asked for, whatever was asked ahead, and by however many at once.
func TestOneAnswer(t *testing.T) {
	want := map[asked]string{}
	shared := map[asked]*poset.Order{}
	for _, a := range unlike() {
		want[a] = said(poset.New(a.n, edgesOf(a.edges)), a.n, numbers(a.l))
		shared[a] = poset.New(a.n, edgesOf(a.edges))
	}
	var all sync.WaitGroup
	for range 8 {
		all.Go(func() {
			for range 30 {
				for _, a := range unlike() {
					fresh := said(poset.New(a.n, edgesOf(a.edges)), a.n, numbers(a.l))
					if got := said(shared[a], a.n, numbers(a.l)); got != want[a] || fresh != want[a] {
						t.Errorf("%v: %s, and then %s, %s", a, want[a], got, fresh)
					}
				}
			}
		})
	}
	all.Wait()
}
