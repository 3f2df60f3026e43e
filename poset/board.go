package poset

import (
	"slices"

	"tambour/knots"
)

// board is a piece of an order: the things that are asked for, and the stretch of knots in which theirs stand. Whatever
// stands between two of them is there.
type board struct {
	things []int  // rising, one of each knot
	idle   int    // the things have the numbers from it on; those below it are of the other knots, or of nothing
	edges  []edge // of numbers: all that come to a number ahead of all that go from it
}

// lay gives the things numbers behind all others, so that knots.Sort tells a knot that isn't asked for as soon as it may.
func (o *Order) lay(l []int) board {
	if o == nil {
		return board{}
	}
	things := o.asked(l)
	from, to := o.stretch(things)
	b := board{things: things, idle: to - from}
	numbers := make([]int, b.idle)
	for i := range numbers {
		numbers[i] = i
	}
	for i, thing := range things {
		if place := o.place(thing); place >= 0 {
			numbers[place-from] = b.idle + i
		}
	}
	for _, e := range o.between(from, to) {
		if e[1] < to {
			b.edges = append(b.edges, edge{numbers[e[0]-from], numbers[e[1]-from]})
		}
	}
	return b
}

// asked are the things of l that are there, of each knot the first one, rising.
func (o *Order) asked(l []int) []int {
	var out []int
	met := map[int]struct{}{}
	for _, thing := range l {
		if !o.has(thing) {
			continue
		}
		place := o.place(thing)
		if _, again := met[place]; !again {
			met[place] = struct{}{}
			out = append(out, thing)
		}
	}
	slices.Sort(out)
	return out
}

// stretch is where the places of the things begin, and what is past their end: 0 and 0, if no edge names any of them.
func (o *Order) stretch(things []int) (from, to int) {
	for _, thing := range things {
		place := o.place(thing)
		if place < 0 {
			continue
		}
		if to == 0 || place < from {
			from = place
		}
		to = max(to, place+1)
	}
	return from, to
}

func (b board) size() int {
	return b.idle + len(b.things)
}

// line are the numbers of the things, in the order of Runs.
func (b board) line() []int {
	all, _ := knots.Sort(b.size(), b.edges)
	return slices.DeleteFunc(all, func(number int) bool { return number < b.idle })
}

func (b board) thing(number int) int {
	return b.things[number-b.idle]
}

// reach is how far one comes from a number, back and on: to which place in line of a thing ahead of it, the last one of
// them, and to which of a thing behind it, the first one. Where there is none: to -1, and to the line's length.
type reach struct {
	back, on int
}

func (b board) reaches(line []int) []reach {
	own := make([]reach, b.size())
	for number := range own {
		own[number] = reach{-1, len(line)}
	}
	for place, number := range line {
		own[number] = reach{place, place}
	}
	out := slices.Repeat([]reach{{-1, len(line)}}, b.size())
	for _, e := range b.edges {
		out[e[1]].back = max(out[e[1]].back, out[e[0]].back, own[e[0]].back)
	}
	for _, e := range slices.Backward(b.edges) {
		out[e[0]].on = min(out[e[0]].on, out[e[1]].on, own[e[1]].on)
	}
	return out
}

// single says of each place in line whether a single thing stands there. Its thing is ahead of all that stand behind
// that place, if from each of these one comes back to that place or to one behind it: step by step one comes to that
// place itself then. Of those that stand ahead of it the same holds the other way.
func (b board) single(line []int) []bool {
	reaches := b.reaches(line)
	out := make([]bool, len(line))
	back := len(line)
	for place, number := range slices.Backward(line) {
		out[place] = back >= place
		back = min(back, reaches[number].back)
	}
	on := -1
	for place, number := range line {
		out[place] = out[place] && on <= place
		on = max(on, reaches[number].on)
	}
	return out
}

func (b board) runs() [][]int {
	line := b.line()
	single := b.single(line)
	var out [][]int
	for place, number := range line {
		if place == 0 || single[place] || single[place-1] {
			out = append(out, nil)
		}
		last := len(out) - 1
		out[last] = append(out[last], b.thing(number))
	}
	return out
}

// sides joins what edges join, but for those that don't lead from a thing to a thing: two things aren't comparable by
// a knot that both are ahead of, or behind.
func (b board) sides() [][]int {
	line := b.line()
	reaches := b.reaches(line)
	g := alone(b.size())
	for _, e := range b.edges {
		from := e[0] >= b.idle || reaches[e[0]].back >= 0
		to := e[1] >= b.idle || reaches[e[1]].on < len(line)
		if from && to {
			g.join(e[0], e[1])
		}
	}
	side := map[int]int{}
	for number := b.idle; number < b.size(); number++ {
		head := g.head(number)
		if _, met := side[head]; !met {
			side[head] = len(side)
		}
	}
	out := make([][]int, len(side))
	for _, number := range line {
		at := side[g.head(number)]
		out[at] = append(out[at], b.thing(number))
	}
	return out
}
