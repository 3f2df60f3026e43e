package redo_test

import (
	"crypto/sha256"
	"errors"
	"fmt"
	"math/rand"
	"slices"
	"strconv"
	"strings"
	"testing"

	"tambour/api"
	"tambour/redo"
	"tambour/sector"
)

// whole is a text of a sector with as many bytes 0 as are wanting.
func whole(s string) string {
	return s + strings.Repeat("\x00", max(0, 512-len(s)))
}

// numberOf is an error's number; -1 of an error that has none, or more than one.
func numberOf(e error) api.Errno {
	if e == nil {
		return api.OK
	}
	var n api.Errno
	if !errors.As(e, &n) || n == api.OK {
		return -1
	}
	for other := api.Errno(0); other < 50; other++ {
		if errors.Is(e, other) != (other == n) {
			return -1
		}
	}
	return n
}

// disk is a new one of n sectors.
func disk(t testing.TB, n int) *sector.Disk {
	t.Helper()
	d, e := sector.New(n)
	if e != nil {
		t.Fatal(e)
	}
	return d
}

// lay makes a sector's bytes sure.
func lay(t testing.TB, d *sector.Disk, at int, s string) {
	t.Helper()
	if e := errors.Join(d.Write(at, s), d.Flush()); e != nil {
		t.Fatal(e)
	}
}

// off makes a disk go off, with nothing pending by that.
func off(t testing.TB, d *sector.Disk) {
	t.Helper()
	d.Fuel(0)
	if d.Flush(); !d.Off() {
		t.Fatal("it is on")
	}
}

func opened(t testing.TB, d *sector.Disk) *redo.Redo {
	t.Helper()
	r, e := redo.Open(d)
	if r == nil || e != nil {
		t.Fatalf("Open: %v, %v", r, e)
	}
	return r
}

func sectorOf(t testing.TB, d *sector.Disk, i int) string {
	t.Helper()
	s, e := d.Read(i)
	if e != nil {
		t.Fatal(e)
	}
	return s
}

func sectorsOf(t testing.TB, d *sector.Disk) []string {
	t.Helper()
	out := make([]string, d.Size())
	for i := range out {
		out[i] = sectorOf(t, d, i)
	}
	return out
}

func pagesOf(t testing.TB, r *redo.Redo) []string {
	t.Helper()
	out := make([]string, r.Pages())
	for page := range out {
		s, e := r.Read(page)
		if e != nil {
			t.Fatal(e)
		}
		out[page] = s
	}
	return out
}

// numbered are pages 0 to n - 1, with bytes of each one's own.
func numbered(n int) []api.Page {
	var out []api.Page
	for no := range n {
		out = append(out, api.Page{No: no, Data: "page " + strconv.Itoa(no)})
	}
	return out
}

// listOf are numbers as bytes.
func listOf(numbers []int) string {
	out := "("
	for _, n := range numbers {
		out += fmt.Sprintf("%d:%d", len(strconv.Itoa(n)), n)
	}
	return out + ")"
}

// telling is a head of a list as bytes, with the digest of that and of some data.
func telling(list, data string) string {
	sum := sha256.Sum256([]byte(list + data))
	return "(4:redo" + list + "32:" + string(sum[:]) + ")"
}

// headOf tells a commit of pages first, first + 1 and so on, as many as there is data of.
func headOf(first int, data ...string) string {
	var numbers []int
	for i := range data {
		numbers = append(numbers, first+i)
	}
	return telling(listOf(numbers), strings.Join(data, ""))
}

// emptyList is the empty head that isn't bytes 0 alone.
func emptyList() string {
	return telling("()", "")
}

// words are the chapter's: its steps, one by one, on a disk of their own.
type words struct {
	disk *sector.Disk
}

// numbersIn are what is told between the list's brackets; false, if these aren't some Nums from 0 up.
func numbersIn(s string) ([]int, bool) {
	var out []int
	for s != "" {
		size, _, _ := strings.Cut(s, ":")
		n, e := strconv.Atoi(size)
		if e != nil || n < 1 || n > 9 || len(s) < 2+n {
			return nil, false
		}
		no, e := strconv.Atoi(s[2 : 2+n])
		if e != nil || s[:2+n] != fmt.Sprintf("%d:%d", n, no) {
			return nil, false
		}
		out, s = append(out, no), s[2+n:]
	}
	return out, true
}

// told are the numbers that the head tells; false, if it is neither empty nor counts.
func (w words) told() ([]int, bool) {
	head, _ := w.disk.Read(0)
	if head == whole("") || head == whole(emptyList()) {
		return nil, true
	}
	rest, ok := strings.CutPrefix(head, "(4:redo(")
	if !ok {
		return nil, false
	}
	inner, _, ok := strings.Cut(rest, ")")
	if !ok {
		return nil, false
	}
	numbers, ok := numbersIn(inner)
	if !ok || len(numbers) > 63 {
		return nil, false
	}
	data := ""
	for i := range numbers {
		s, _ := w.disk.Read(1 + i)
		data += s
	}
	seen := map[int]bool{}
	for _, n := range numbers {
		if n < 0 || n >= w.disk.Size()-64 || seen[n] {
			return nil, false
		}
		seen[n] = true
	}
	return numbers, head == whole(telling("("+inner+")", data))
}

// steps makes writes and flushes (of sector -1), up to the first error.
func (w words) steps(l []api.Page) api.Errno {
	for _, p := range l {
		e := error(nil)
		if p.No < 0 {
			e = w.disk.Flush()
		} else {
			e = w.disk.Write(p.No, p.Data)
		}
		if e != nil {
			return numberOf(e)
		}
	}
	return api.OK
}

// settling are the steps that an Open and a Commit have in common.
func settling(l []api.Page) []api.Page {
	var out []api.Page
	for _, p := range l {
		out = append(out, api.Page{No: 64 + p.No, Data: p.Data})
	}
	return append(out, api.Page{No: -1}, api.Page{No: 0}, api.Page{No: -1})
}

func (w words) open() api.Errno {
	if w.disk.Off() {
		return api.ErrOff
	}
	if w.disk.Size() < 65 {
		return api.ErrDisk
	}
	numbers, ok := w.told()
	if !ok {
		return api.ErrDisk
	}
	if len(numbers) == 0 {
		return api.OK
	}
	var l []api.Page
	for i, n := range numbers {
		s, _ := w.disk.Read(1 + i)
		l = append(l, api.Page{No: n, Data: s})
	}
	return w.steps(settling(l))
}

func (w words) commit(l []api.Page) api.Errno {
	seen := map[int]bool{}
	for _, p := range l {
		if p.No < 0 || p.No >= w.disk.Size()-64 || seen[p.No] || len(p.Data) > 512 {
			return api.ErrArg
		}
		seen[p.No] = true
	}
	if len(l) > 63 {
		return api.ErrBig
	}
	if len(l) == 0 {
		return api.OK
	}
	var steps []api.Page
	var numbers []int
	data := ""
	for i, p := range l {
		steps = append(steps, api.Page{No: 1 + i, Data: whole(p.Data)})
		numbers = append(numbers, p.No)
		data += whole(p.Data)
	}
	steps = append(steps, api.Page{No: -1}, api.Page{Data: telling(listOf(numbers), data)}, api.Page{No: -1})
	return w.steps(append(steps, settling(l)...))
}

func (w words) read(page int) (string, api.Errno) {
	if w.disk.Off() {
		return "", api.ErrOff
	}
	if page < 0 || page >= w.disk.Size()-64 {
		return "", api.ErrArg
	}
	s, e := w.disk.Read(64 + page)
	return s, numberOf(e)
}

// pair is a disk that package redo works on, beside one for the words.
type pair struct {
	t    testing.TB
	disk *sector.Disk
	redo *redo.Redo
	said words
	done []string
}

func pairOf(t testing.TB, n int) *pair {
	t.Helper()
	return &pair{t: t, disk: disk(t, n), said: words{disk(t, n)}}
}

// note keeps what was done last: a fault may come to light behind thousands of moves.
func (p *pair) note(format string, all ...any) {
	p.done = append(p.done[max(0, len(p.done)-12):], fmt.Sprintf(format, all...))
}

// both does something to both disks from outside.
func (p *pair) both(what string, do func(d *sector.Disk)) {
	p.note("%s", what)
	do(p.disk)
	do(p.said.disk)
}

// open answers whether what there is is a new Redo.
func (p *pair) open() bool {
	p.t.Helper()
	p.note("Open")
	r, e := redo.Open(p.disk)
	if want := p.said.open(); numberOf(e) != want || (r == nil) != (want != api.OK) {
		p.t.Fatalf("%v: Open: %v, %v, want %d", p.done, r, e, want)
	}
	if r != nil {
		p.redo = r
	}
	p.look()
	return r != nil
}

func (p *pair) commit(l []api.Page) api.Errno {
	p.t.Helper()
	p.note("Commit(%.60v)", l)
	e := p.redo.Commit(l)
	if want := p.said.commit(l); numberOf(e) != want {
		p.t.Fatalf("%v: Commit: %v, want %d", p.done, e, want)
	}
	p.look()
	return numberOf(e)
}

func (p *pair) read(page int) {
	p.t.Helper()
	s, e := p.redo.Read(page)
	if want, number := p.said.read(page); s != want || numberOf(e) != number {
		p.t.Fatalf("%v: Read(%d) = %q, %v, want %q, %d", p.done, page, s, e, want, number)
	}
}

// look holds both disks against each other. Which of the empty heads was written isn't said.
func (p *pair) look() {
	p.t.Helper()
	a, b := p.disk, p.said.disk
	if a.Off() != b.Off() || a.Pending() != b.Pending() {
		p.t.Fatalf("%v: Off %v, Pending %d, want %v, %d", p.done, a.Off(), a.Pending(), b.Off(), b.Pending())
	}
	if a.Off() {
		return
	}
	got, want := sectorsOf(p.t, a), sectorsOf(p.t, b)
	if got[0] == whole(emptyList()) {
		got[0] = whole("")
	}
	if want[0] == whole(emptyList()) {
		want[0] = whole("")
	}
	for i := range got {
		if got[i] != want[i] {
			p.t.Fatalf("%v: sector %d is %q, want %q", p.done, i, got[i], want[i])
		}
	}
}

// fall lets both disks fall, with any choice of the pending writes.
func (p *pair) fall(keep []bool) {
	p.both(fmt.Sprintf("Fall(%v)", keep), func(d *sector.Disk) { d.Fall(keep) })
	p.look()
}

func (p *pair) fuel(n int) {
	p.both(fmt.Sprintf("Fuel(%d)", n), func(d *sector.Disk) { d.Fuel(n) })
}

func anyData(r *rand.Rand) string {
	b := make([]byte, []int{0, 1, 2, 3, 20, 511, 512}[r.Intn(7)])
	for i := range b {
		b[i] = byte(r.Intn(256) * r.Intn(2))
	}
	return string(b)
}

// anyPages are for a disk of so many pages; now and then they are such that Commit refuses.
func anyPages(r *rand.Rand, pages int) []api.Page {
	k := r.Intn(5)
	if r.Intn(10) == 0 {
		k = r.Intn(70)
	}
	var out []api.Page
	for _, no := range r.Perm(pages)[:min(k, pages)] {
		out = append(out, api.Page{No: no, Data: anyData(r)})
	}
	if len(out) > 0 && r.Intn(8) == 0 {
		bad := &out[r.Intn(len(out))]
		switch r.Intn(3) {
		case 0:
			bad.No = []int{-1, -64, pages, pages + 1, 1 << 62, -1 << 63}[r.Intn(6)]
		case 1:
			bad.No = out[r.Intn(len(out))].No
		default:
			bad.Data = strings.Repeat("x", 513)
		}
	}
	return out
}

func anyKeep(r *rand.Rand, pending int) []bool {
	var out []bool
	mostly := r.Intn(5)
	for range r.Intn(pending + 2) {
		out = append(out, r.Intn(4) < mostly)
	}
	return out
}

// P13.1: the calls in any order, with falls and fuel between them, held against the chapter's words: each answer, each sector, and what is pending.
func TestAnyMoves(t *testing.T) {
	r := rand.New(rand.NewSource(13))
	broken, redone := 0, 0
	for i := range 400 {
		p := pairOf(t, []int{65, 66, 70, 80, 130}[i%5])
		p.open()
		for range 1 + r.Intn(60) {
			switch k := r.Intn(20); {
			case k < 8:
				if p.commit(anyPages(r, p.disk.Size()-64)) == api.ErrOff {
					broken++
				}
			case k < 13:
				p.read(r.Intn(p.disk.Size()-60) - 2)
			case k < 15:
				p.fuel([]int{-1, 0, 1, 2, 3, 4, 5, 6, 7, 8, 9, 11, 13, 40}[r.Intn(14)])
			case k < 18:
				p.fall(anyKeep(r, p.disk.Pending()))
				if r.Intn(2) == 0 {
					p.fuel(r.Intn(9))
				}
				numbers, _ := p.said.told()
				if p.open() && len(numbers) > 0 {
					redone++
				}
			default:
				p.open()
			}
			if n := p.redo.Pages(); n != p.disk.Size()-64 {
				t.Fatalf("%v: Pages %d", p.done, n)
			}
		}
		p.fall(nil)
		p.open()
		for page := -2; page < p.disk.Size()-60; page++ {
			p.read(page)
		}
	}
	if broken < 500 || redone < 100 {
		t.Errorf("%d commits broken off, %d redone", broken, redone)
	}
}

// P13.1: a commit at each fuel, behind which the disks are the words' own at once, and behind each opening.
func TestEachStep(t *testing.T) {
	for _, k := range []int{1, 2, 3, 16} {
		for fuel := range 2*k + 8 {
			for again := -1; again < k+5; again++ {
				p := pairOf(t, 80)
				p.open()
				p.commit([]api.Page{{No: 2, Data: "old"}, {No: 5, Data: "old"}})
				p.fuel(fuel)
				e := p.commit(numbered(k))
				if (e == api.OK) != (fuel >= 2*k+6) || e != api.OK && e != api.ErrOff {
					t.Errorf("%d pages, fuel %d: %d", k, fuel, e)
				}
				p.fall(bits("1101"))
				p.fuel(again)
				if !p.open() {
					p.fall(bits("011"))
					p.open()
				}
				for page := range 16 {
					p.read(page)
				}
			}
		}
	}
}

// bits reads the truths of a Fall.
func bits(s string) []bool {
	var out []bool
	for _, b := range s {
		out = append(out, b == '1')
	}
	return out
}

// P13.1: an old Redo behind a fall, with no Open between: its calls do what is said of them all the same.
func TestOldRedo(t *testing.T) {
	for fuel := range 12 {
		for _, keep := range []string{"", "1", "01", "11"} {
			p := pairOf(t, 80)
			p.open()
			p.fuel(fuel)
			p.commit([]api.Page{{No: 2, Data: "a"}, {No: 5, Data: "b"}})
			p.read(2)
			p.fall(bits(keep))
			p.read(2)
			p.commit([]api.Page{{No: 5, Data: "c"}, {No: 6, Data: "d"}, {No: 0, Data: "e"}})
			for page := range 16 {
				p.read(page)
			}
			p.open()
		}
	}
}

// FuzzRedo reads moves from bytes, two of them a move.
func FuzzRedo(f *testing.F) {
	for _, s := range []string{"", "\x01\x22\x02\x05\x01\x23\x03\x03\x00\x00", "\x02\x06\x01\x82\x03\x02\x02\x02\x00\x00\x03\x01\x00\x00"} {
		f.Add(16, s)
	}
	f.Fuzz(func(t *testing.T, pages int, s string) {
		p := pairOf(t, 65+max(0, pages%70))
		p.open()
		r := rand.New(rand.NewSource(int64(pages)))
		for i := 1; i < min(len(s), 200); i += 2 {
			n := int(s[i])
			switch s[i-1] % 5 {
			case 0:
				p.open()
			case 1:
				var l []api.Page
				for _, no := range r.Perm(p.redo.Pages())[:min(n%67, p.redo.Pages())] {
					l = append(l, api.Page{No: no - n/250, Data: strings.Repeat(s[i:i+1], n*2)})
				}
				p.commit(l)
			case 2:
				p.fuel(n - 1)
			case 3:
				p.fall(bits(strconv.FormatInt(int64(n), 2)))
				p.open()
			default:
				p.read(n - 2)
			}
		}
	})
}

// P13.1: what package redo wrote is what the chapter tells of a head: byte by byte, of pages in any order.
func TestHeadWritten(t *testing.T) {
	for _, l := range [][]api.Page{{{No: 0}}, {{No: 3999, Data: "x"}}, {{No: 5, Data: "b"}, {No: 2, Data: "a\x00"}, {No: 10, Data: strings.Repeat("z", 512)}}, numbered(63), slices.Concat(numbered(4032)[3969:])} {
		d := disk(t, 4096)
		r := opened(t, d)
		d.Fuel(len(l) + 2)
		if e := r.Commit(l); numberOf(e) != api.ErrOff {
			t.Fatal(e)
		}
		d.Fall([]bool{true})
		var numbers []int
		data := ""
		for i, p := range l {
			numbers = append(numbers, p.No)
			data += whole(p.Data)
			if s := sectorOf(t, d, 1+i); s != whole(p.Data) {
				t.Errorf("sector %d is %q", 1+i, s)
			}
		}
		if s := sectorOf(t, d, 0); s != whole(telling(listOf(numbers), data)) {
			t.Errorf("%d pages: the head is %q", len(l), s)
		}
	}
}
