package poset

// groups are numbers that were joined: each leads to another one of its group, but the head of the group to itself.
type groups []int

func alone(n int) groups {
	out := make(groups, n)
	for i := range out {
		out[i] = i
	}
	return out
}

// head halves the way on which it goes, so that long ones don't stay long.
func (g groups) head(number int) int {
	for g[number] != number {
		g[number] = g[g[number]]
		number = g[number]
	}
	return number
}

func (g groups) join(a, b int) {
	g[g.head(a)] = g.head(b)
}
