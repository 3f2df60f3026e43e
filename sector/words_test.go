package sector_test

import (
	"errors"
	"fmt"
	"math/rand"
	"slices"
	"strconv"
	"strings"
	"testing"

	"tambour/api"
	"tambour/sector"
)

// whole is a text of a sector with as many bytes 0 as are wanting.
func whole(s string) string {
	return s + strings.Repeat("\x00", max(0, 512-len(s)))
}

// numberOf is an error's number; -1 of an error that has none, or more than one.
func numberOf(e error) api.Errno {
	if e == nil {
		return api.OK
	}
	var n api.Errno
	if !errors.As(e, &n) || n == api.OK {
		return -1
	}
	for other := api.Errno(0); other < 50; other++ {
		if errors.Is(e, other) != (other == n) {
			return -1
		}
	}
	return n
}

// made is a disk of n sectors.
func made(t *testing.T, n int) *sector.Disk {
	t.Helper()
	d, e := sector.New(n)
	if d == nil || e != nil {
		t.Fatalf("New(%d): %v, %v", n, d, e)
	}
	return d
}

// note is of a pending write.
type note struct {
	at   int
	text string
}

func (n note) String() string {
	return fmt.Sprintf("%d %q", n.at, n.text)
}

// words are a disk in the chapter's words.
type words struct {
	sure    []string
	pending []note
	off     bool
	limited bool
	left    int
}

// saying are the words of a disk of n sectors.
func saying(n int) *words {
	return &words{sure: slices.Repeat([]string{whole("")}, n)}
}

func (w *words) is(i int) bool {
	return i >= 0 && i < len(w.sure)
}

func (w *words) read(i int) (string, api.Errno) {
	if w.off {
		return "", api.ErrOff
	}
	if !w.is(i) {
		return "", api.ErrArg
	}
	out := w.sure[i]
	for _, p := range w.pending {
		if p.at == i {
			out = p.text
		}
	}
	return out, api.OK
}

func (w *words) step() api.Errno {
	if w.limited && w.left == 0 {
		w.off = true
		return api.ErrOff
	}
	w.left--
	return api.OK
}

func (w *words) write(i int, s string) api.Errno {
	if w.off {
		return api.ErrOff
	}
	if !w.is(i) || len(s) > 512 {
		return api.ErrArg
	}
	if e := w.step(); e != api.OK {
		return e
	}
	w.pending = append(w.pending, note{i, whole(s)})
	return api.OK
}

func (w *words) flush() api.Errno {
	if w.off {
		return api.ErrOff
	}
	if e := w.step(); e != api.OK {
		return e
	}
	for _, p := range w.pending {
		w.sure[p.at] = p.text
	}
	w.pending = nil
	return api.OK
}

func (w *words) fuel(n int) {
	w.limited, w.left = n >= 0, n
}

func (w *words) fall(keep []bool) {
	for i, p := range w.pending {
		if i < len(keep) && keep[i] {
			w.sure[p.at] = p.text
		}
	}
	w.pending = nil
	w.off, w.limited = false, false
}

// move is a call of one that does something.
type move struct {
	kind byte // w, f (Flush), u (Fuel), d (Fall)
	n    int
	text string
	keep []bool
}

func (m move) String() string {
	switch m.kind {
	case 'w':
		if len(m.text) > 20 {
			return fmt.Sprintf("Write(%d, %d bytes)", m.n, len(m.text))
		}
		return fmt.Sprintf("Write(%d, %q)", m.n, m.text)
	case 'f':
		return "Flush()"
	case 'u':
		return fmt.Sprintf("Fuel(%d)", m.n)
	}
	return fmt.Sprintf("Fall(%v)", m.keep)
}

// pair is a disk beside the words that say what it is to do.
type pair struct {
	t    *testing.T
	disk *sector.Disk
	said *words
	done []move
}

func pairOf(t *testing.T, n int) *pair {
	t.Helper()
	return &pair{t: t, disk: made(t, n), said: saying(n)}
}

// do makes a move on both, and holds the answers against each other.
func (p *pair) do(m move) {
	p.t.Helper()
	var got, want api.Errno
	switch m.kind {
	case 'w':
		got, want = numberOf(p.disk.Write(m.n, m.text)), p.said.write(m.n, m.text)
	case 'f':
		got, want = numberOf(p.disk.Flush()), p.said.flush()
	case 'u':
		p.disk.Fuel(m.n)
		p.said.fuel(m.n)
	default:
		p.disk.Fall(m.keep)
		p.said.fall(m.keep)
	}
	p.done = append(p.done, m)
	if got != want {
		p.t.Fatalf("%v: error %d, want %d", p.late(), got, want)
	}
}

// late are the last moves: a fault may come to light behind thousands of them.
func (p *pair) late() []move {
	return p.done[max(0, len(p.done)-20):]
}

// readAt holds Read of one sector against the words.
func (p *pair) readAt(i int) {
	p.t.Helper()
	got, e := p.disk.Read(i)
	if want, number := p.said.read(i); got != want || numberOf(e) != number {
		p.t.Fatalf("%v: Read(%d) = %q, %v, want %q, %d", p.late(), i, strings.TrimRight(got, "\x00"), e, strings.TrimRight(want, "\x00"), number)
	}
}

// look holds all that is told without a move against the words.
func (p *pair) look() {
	p.t.Helper()
	if p.disk.Size() != len(p.said.sure) || p.disk.Off() != p.said.off || p.disk.Pending() != len(p.said.pending) {
		p.t.Fatalf("%v: Size %d, Off %v, Pending %d, want %d, %v, %d", p.late(), p.disk.Size(), p.disk.Off(), p.disk.Pending(), len(p.said.sure), p.said.off, len(p.said.pending))
	}
	for i := -1; i <= len(p.said.sure); i++ {
		p.readAt(i)
	}
}

// bits reads the truths of a Fall.
func bits(s string) []bool {
	var out []bool
	for _, b := range s {
		out = append(out, b == '1')
	}
	return out
}

// P12.1: all orders of some moves, looked at behind each one, and not till the end.
func TestAllOrders(t *testing.T) {
	moves := func(place int) []move {
		text := string(rune('a' + place))
		return []move{
			{kind: 'w', n: 0, text: text}, {kind: 'w', n: 1, text: text}, {kind: 'f'},
			{kind: 'u', n: 0}, {kind: 'u', n: 1}, {kind: 'u', n: -1},
			{kind: 'd'}, {kind: 'd', keep: bits("1")}, {kind: 'd', keep: bits("01")}, {kind: 'd', keep: bits("101")},
		}
	}
	var all func(l []move)
	all = func(l []move) {
		for _, often := range []bool{true, false} {
			p := pairOf(t, 2)
			for _, m := range l {
				p.do(m)
				if often {
					p.look()
				}
			}
			p.look()
		}
		if len(l) == 5 || len(l) == 4 && testing.Short() {
			return
		}
		for _, m := range moves(len(l)) {
			all(append(slices.Clone(l), m))
		}
	}
	all(nil)
}

// anyText is of any length, that one that is too long among them, and of any bytes.
func anyText(r *rand.Rand) string {
	b := make([]byte, []int{0, 1, 2, 3, 20, 511, 512, 512, 513}[r.Intn(9)])
	for i := range b {
		b[i] = byte(r.Intn(256))
	}
	return string(b)
}

// anyKeep has fewer truths than writes are pending, as many, or more.
func anyKeep(r *rand.Rand, pending int) []bool {
	var out []bool
	mostly := r.Intn(5)
	for range r.Intn(pending + 4) {
		out = append(out, r.Intn(4) < mostly)
	}
	return out
}

func anyMove(r *rand.Rand, size, pending int) move {
	switch k := r.Intn(40); {
	case k < 24:
		return move{kind: 'w', n: r.Intn(size), text: anyText(r)}
	case k < 26:
		return move{kind: 'w', n: []int{-1, size, size + 1, 1 << 32, -1 << 63, 1<<63 - 1}[r.Intn(6)], text: anyText(r)}
	case k < 31:
		return move{kind: 'f'}
	case k < 36:
		return move{kind: 'u', n: []int{-7, -1, 0, 1, 2, 3, 5, 8, 1 << 32, 1<<63 - 1, -1 << 63}[r.Intn(11)]}
	}
	return move{kind: 'd', keep: anyKeep(r, pending)}
}

// P12.1, P12.2: thousands of moves of any kind, in any order, on disks of unlike sizes.
func TestAnyMoves(t *testing.T) {
	r := rand.New(rand.NewSource(12))
	fell, offs := 0, 0
	for i := range 1200 {
		p := pairOf(t, []int{1, 2, 3, 7, 20}[i%5])
		often := i%3 == 0
		for range 1 + r.Intn(60) {
			m := anyMove(r, p.disk.Size(), len(p.said.pending))
			wasOff := p.said.off
			p.do(m)
			if m.kind == 'd' {
				fell++
			}
			if p.said.off && !wasOff {
				offs++
			}
			if often {
				p.look()
			} else {
				p.readAt(r.Intn(p.disk.Size()))
			}
		}
		p.look()
	}
	if fell < 2000 || offs < 500 {
		t.Errorf("%d falls, %d times off", fell, offs)
	}
}

// FuzzSector reads moves from bytes, three of them a move.
func FuzzSector(f *testing.F) {
	for _, s := range []string{"", "\x00\x03a\x01\x00\x00\x00\x03b\x00\x04c\x03\x02\x02", "\x02\x01\x00\x00\x00x\x01\x00\x00\x03\x00\x01"} {
		f.Add(9, s)
	}
	f.Fuzz(func(t *testing.T, n int, s string) {
		d, e := sector.New(n)
		if n < 1 || n > 4096 {
			if d != nil || numberOf(e) != api.ErrArg {
				t.Errorf("New(%d): %v, %v", n, d, e)
			}
			return
		}
		p := pairOf(t, min(n, 30))
		for i := 2; i < min(len(s), 300); i += 3 {
			at, text := int(s[i-1])-2, strings.Repeat(s[i:i+1], int(s[i])*2+int(s[i-1])%3)
			keep := bits(strconv.FormatInt(int64(s[i-1])<<8|int64(s[i]), 2))
			p.do(move{kind: "wfud"[s[i-2]%4], n: at, text: text, keep: keep})
			p.look()
		}
	})
}
