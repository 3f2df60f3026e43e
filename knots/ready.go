package knots

import "sort"

// ready is a heap (container/heap) of the things that may be told next.
type ready struct {
	sort.IntSlice
}

func (r *ready) Push(x any) {
	r.IntSlice = append(r.IntSlice, x.(int))
}

func (r *ready) Pop() any {
	last := r.Len() - 1
	x := r.IntSlice[last]
	r.IntSlice = r.IntSlice[:last]
	return x
}
