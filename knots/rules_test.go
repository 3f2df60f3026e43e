package knots_test

import (
	"fmt"
	"slices"
	"sync"
	"testing"

	"tambour/knots"
)

// asked is one question to both calls.
type asked struct {
	n     int
	edges string
}

// unlike are questions of each kind.
func unlike() []asked {
	return []asked{
		{-1, "0 1"}, {0, ""}, {1, ""}, {1, "0 0"}, {4, "0 1, 1 2, 2 1, 2 3"}, {3, "2 0"}, {2, "0 1, 1 0"}, {5, ""},
		{5, "4 2, 2 0, 3 1"}, {6, "5 4, 4 3, 3 5, 0 1, 1 0, 1 3"}, {3, "2 1, 3 0, 0 -1, 1 1"}, {7, "6 0, 6 0, 0 3, 9 9"},
	}
}

// said tells what both calls say.
func said(a asked) string {
	edges := edgesOf(a.edges)
	l, ok := knots.Sort(a.n, edges)
	return fmt.Sprint(knots.Knots(a.n, edges), l, ok)
}

// R4: what is handed in is not changed, the room behind it neither.
func TestArgumentsUnchanged(t *testing.T) {
	for _, a := range unlike() {
		edges := edgesOf(a.edges)
		whole := append(slices.Clone(edges), [2]int{0, 1}, [2]int{1, 0}, [2]int{-7, 7})
		was := slices.Clone(whole)
		for range 3 {
			knots.Knots(a.n, whole[:len(edges)])
			if !slices.Equal(whole, was) {
				t.Errorf("Knots(%d, %s): now %v", a.n, a.edges, whole)
			}
			knots.Sort(a.n, whole[:len(edges)])
			if !slices.Equal(whole, was) {
				t.Errorf("Sort(%d, %s): now %v", a.n, a.edges, whole)
			}
		}
	}
}

// spoil writes to a list, and to the room behind it.
func spoil(l []int) {
	l = l[:cap(l)]
	for i := range l {
		l[i] = -9
	}
}

// R4: what is answered is memory of its own: whoever writes to it, and behind it, changes neither what was handed in nor
// another answer.
func TestAnswersApart(t *testing.T) {
	for _, a := range unlike() {
		edges := edgesOf(a.edges)
		was := slices.Clone(edges)
		want := said(a)
		var all [][]int
		for range 3 {
			l, _ := knots.Sort(a.n, edges)
			all = append(all, knots.Knots(a.n, edges), l)
		}
		for i, l := range all {
			spoil(l)
			for _, other := range all[i+1:] {
				if slices.Contains(other, -9) {
					t.Errorf("%d, %s: two answers share memory", a.n, a.edges)
				}
			}
		}
		if got := said(a); got != want || !slices.Equal(edges, was) {
			t.Errorf("%d, %s: %s, and %s once its answers are spoilt; %v", a.n, a.edges, want, got, edges)
		}
	}
}

// R4, R7: what is handed in is not kept: an answer stays, whatever becomes of it, and the next one hangs on its own arguments.
func TestNotKept(t *testing.T) {
	edges := edgesOf("2 0, 1 2")
	ties := knots.Knots(3, edges)
	line, ok := knots.Sort(3, edges)
	edges[0], edges[1] = [2]int{0, 1}, [2]int{1, 0}
	if !slices.Equal(ties, numbers("0 1 2")) || !slices.Equal(line, numbers("1 2 0")) || !ok {
		t.Error(ties, line, ok)
	}
	asTheWordsSay(t, 3, edges)
	if l := knots.Knots(3, edges); !slices.Equal(l, numbers("0 0 2")) {
		t.Error(l)
	}
	if l, ok := knots.Sort(3, edges); ok || len(l) != 0 {
		t.Error(l, ok)
	}
}

// R7: one answer, however often it is asked for, whatever was asked ahead, and by however many at once.
func TestOneAnswer(t *testing.T) {
	want := map[asked]string{}
	for _, a := range unlike() {
		want[a] = said(a)
	}
	var all sync.WaitGroup
	for range 8 {
		all.Go(func() {
			for range 50 {
				for _, a := range unlike() {
					if got := said(a); got != want[a] {
						t.Errorf("%v: %s, and then %s", a, want[a], got)
					}
				}
			}
		})
	}
	all.Wait()
	shared := edgesOf("5 4, 4 3, 3 5, 0 1, 1 0, 1 3")
	for range 8 {
		all.Go(func() {
			if l := knots.Knots(6, shared); !slices.Equal(l, numbers("0 0 2 3 3 3")) {
				t.Errorf("one list asked by several: %v", l)
			}
			if l, ok := knots.Sort(6, shared); ok || len(l) != 0 {
				t.Errorf("one list asked by several: %v", l)
			}
		})
	}
	all.Wait()
}
