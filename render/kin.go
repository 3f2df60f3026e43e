package render

import (
	"slices"

	"tambour/api"
	"tambour/order"
)

// width is how many patches a band has: a bit each of a mark.
const width = 64

// none is no band.
const none = -1

// kin says which patches of a closed set know each other: one of them is in the other's past, or a patch has both in its
// past. It keeps what it knows of one band of patches at a time, as all pairs of a great set are too many to be kept.
type kin struct {
	names []string // rising: a patch's number is its name's place here
	line  []int    // all patches, each behind what it needs
	needs [][]int
	band  int
	marks []uint64 // of each patch: which of the band know it
}

func meet(set []api.Named) *kin {
	linear, _ := order.Linear(set)
	k := &kin{names: slices.Sorted(slices.Values(linear)), needs: make([][]int, len(set)), band: none, marks: make([]uint64, len(set))}
	for _, name := range linear {
		k.line = append(k.line, k.number(name))
	}
	for _, p := range set {
		number := k.number(p.Name)
		for _, d := range p.Patch.Deps {
			k.needs[number] = append(k.needs[number], k.number(d))
		}
	}
	return k
}

func (k *kin) number(name string) int {
	number, _ := slices.BinarySearch(k.names, name)
	return number
}

// knows says of a patch itself, too, that it is known. It is quick while the qs that are asked for lie in one band.
func (k *kin) knows(p, q int) bool {
	if q/width != k.band {
		k.sweep(q / width)
	}
	return k.marks[p]>>(q%width)&1 == 1
}

// sweep goes along the line, on which each patch takes the marks of what it needs: it bears those of its whole past then.
// Back along the line what is needed takes the marks of who needs it: whoever meet in one past bear each other's then.
func (k *kin) sweep(band int) {
	k.band = band
	clear(k.marks)
	for q := band * width; q < min((band+1)*width, len(k.marks)); q++ {
		k.marks[q] = 1 << (q % width)
	}
	for _, p := range k.line {
		for _, d := range k.needs[p] {
			k.marks[p] |= k.marks[d]
		}
	}
	for _, p := range slices.Backward(k.line) {
		for _, d := range k.needs[p] {
			k.marks[d] |= k.marks[p]
		}
	}
}
