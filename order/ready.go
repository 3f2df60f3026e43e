package order

// ready is a heap (container/heap) of the places that may be told next: the least name has the least place.
type ready []int

func (r ready) Len() int           { return len(r) }
func (r ready) Less(i, j int) bool { return r[i] < r[j] }
func (r ready) Swap(i, j int)      { r[i], r[j] = r[j], r[i] }
func (r *ready) Push(x any)        { *r = append(*r, x.(int)) }

func (r *ready) Pop() any {
	last := len(*r) - 1
	x := (*r)[last]
	*r = (*r)[:last]
	return x
}
