package order_test

import (
	"slices"
	"sync"
	"testing"
	"time"

	"tambour/api"
	"tambour/order"
)

// roomy is a set each list of which has room behind it, and what stands in that room too.
func roomy(set []api.Named) (in, whole []api.Named) {
	whole = append(clone(set), named("room", "b", "a"), named("a"))
	for i, p := range whole {
		deps := append(slices.Clone(p.Patch.Deps), "room", "a", "z")
		whole[i].Patch.Deps = deps
		whole[i].Patch.Ops = []api.Op{{Kind: 1, Lines: []string{"b", "a"}}, {Kind: 9}}
	}
	in = slices.Clone(whole)
	for i, p := range in {
		in[i].Patch.Deps = p.Patch.Deps[:len(p.Patch.Deps)-3]
	}
	return in[:len(set)], whole
}

// unlike are sets of each kind: closed, and with each fault.
func unlike() []string {
	return []string{"", "a", "c a ba", "dcb b ca a", "e de cd bc ab", "b a b", "cbz b a", "cba bc a", "aa", "da ab ac c b", "cbb b a"}
}

// R4: what is handed in is not changed, the room behind it neither.
func TestArgumentsUnchanged(t *testing.T) {
	for _, s := range unlike() {
		set, whole := roomy(setOf(s))
		all := set[:cap(set)]
		was, wasWhole := clone(all), clone(whole)
		have := []string{"c", "a", "z", "a", "room", "behind"}
		wasHave := slices.Clone(have)
		unchanged := func(call string) {
			t.Helper()
			if !same(all, was) || !same(whole, wasWhole) || !slices.Equal(have, wasHave) {
				t.Errorf("%s(%s): now %s, %q", call, s, plain(all), have)
			}
		}
		for range 3 {
			order.Check(set)
			unchanged("Check")
			order.Linear(set)
			unchanged("Linear")
			for _, n := range letters("abcdez") {
				order.Past(set, n)
				unchanged("Past")
			}
			order.Heads(set)
			unchanged("Heads")
			order.Missing(set, have[:4])
			unchanged("Missing")
			order.Missing(set, have[:0])
			unchanged("Missing of nothing had")
		}
	}
}

// R4: what is answered is memory of its own: whoever writes to it, and behind it, changes neither what was handed in nor
// another answer.
func TestAnswersApart(t *testing.T) {
	spoil := func(l []string) {
		l = l[:cap(l)]
		for i := range l {
			l[i] = "spoilt"
		}
	}
	for _, s := range unlike() {
		set := setOf(s)
		was := clone(set)
		have := []string{"c", "a", "z"}
		want := answers(set, have)
		var all [][]string
		for range 2 {
			l, _ := order.Linear(set)
			m, _ := order.Missing(set, have)
			n, _ := order.Missing(set, nil)
			all = append(all, l, m, n, order.Heads(set))
			for _, n := range letters("abcde") {
				all = append(all, order.Past(set, n))
			}
		}
		for i, l := range all {
			spoil(l)
			for _, other := range all[i+1:] {
				if slices.Contains(other, "spoilt") {
					t.Errorf("%s: two answers share memory", s)
				}
			}
		}
		if got := answers(set, have); got != want || !same(set, was) || !slices.Equal(have, letters("caz")) {
			t.Errorf("%s: %s, %s once its answers are spoilt; %s, %q", s, want, got, plain(set), have)
		}
	}
}

// R4, R7: what is handed in is not kept: an answer stays, whatever becomes of it, and the next one hangs on its own arguments.
func TestNotKept(t *testing.T) {
	set, have := setOf("c a ba"), []string{"b"}
	line, _ := order.Linear(set)
	missing, _ := order.Missing(set, have)
	past, heads := order.Past(set, "b"), order.Heads(set)
	set[1].Name, set[2].Patch.Deps[0], have[0] = "x", "x", "y"
	if !slices.Equal(line, letters("abc")) || !slices.Equal(missing, letters("ac")) || !slices.Equal(past, letters("a")) || !slices.Equal(heads, letters("bc")) {
		t.Errorf("%q, %q, %q, %q", line, missing, past, heads)
	}
	asTheWordsSay(t, set, have...)
	if l, e := order.Linear(set); e != nil || !slices.Equal(l, letters("cxb")) {
		t.Errorf("%q, %v", l, e)
	}
	if l := order.Past(set, "b"); !slices.Equal(l, letters("x")) {
		t.Errorf("%q", l)
	}
}

// R7: one answer, however often it is asked for, whatever was asked ahead, and by however many at once.
func TestOneAnswer(t *testing.T) {
	have := letters("caz")
	want := map[string]string{}
	for _, s := range unlike() {
		want[s] = answers(setOf(s), have)
	}
	var all sync.WaitGroup
	for range 8 {
		all.Go(func() {
			for range 20 {
				for _, s := range unlike() {
					if got := answers(setOf(s), have); got != want[s] {
						t.Errorf("%s: %s, and then %s", s, want[s], got)
					}
				}
			}
		})
	}
	all.Wait()
	shared := setOf("e de cd bc ab")
	for range 8 {
		all.Go(func() {
			if got := answers(shared, have); got != want["e de cd bc ab"] {
				t.Errorf("one set asked by several: %s", got)
			}
		})
	}
	all.Wait()
}

// P0: nothing, and lists of nothing.
func TestNothing(t *testing.T) {
	for _, set := range [][]api.Named{nil, {}, {{}}, {{}, {}}, {{Patch: api.Patch{Deps: []string{""}}}}, make([]api.Named, 1000)} {
		asTheWordsSay(t, set, "")
		alikeInAllOrders(t, set)
	}
}

// soon fails where the calls of do take much longer than sets of that size may.
func soon(t *testing.T, why string, do func()) {
	t.Helper()
	begun := time.Now()
	do()
	if d := time.Since(begun); d > 20*time.Second {
		t.Errorf("%s: %v", why, d)
	}
}

// big holds each call on a big closed set against its line and its heads, and the past of one of its names.
func big(t *testing.T, why string, set []api.Named, line, heads []string, of string, past []string) {
	t.Helper()
	soon(t, why, func() {
		if e := order.Check(set); e != nil {
			t.Errorf("%s: Check: %v", why, e)
		}
		if l, e := order.Linear(set); e != nil || !slices.Equal(l, line) {
			t.Errorf("%s: Linear: %d, %v", why, len(l), e)
		}
		if l := order.Past(set, of); !slices.Equal(l, past) {
			t.Errorf("%s: Past: %d", why, len(l))
		}
		if l := order.Heads(set); !slices.Equal(l, heads) {
			t.Errorf("%s: Heads: %d", why, len(l))
		}
		if l, e := order.Missing(set, line[len(line)/2:]); e != nil || !slices.Equal(l, line[:len(line)/2]) {
			t.Errorf("%s: Missing: %d, %v", why, len(l), e)
		}
	})
}

// refused holds each call on a big set that isn't closed.
func refused(t *testing.T, why string, set []api.Named, want api.Errno) {
	t.Helper()
	soon(t, why, func() {
		l, e := order.Linear(set)
		m, f := order.Missing(set, []string{set[0].Name})
		if !only(order.Check(set), want) || !only(e, want) || !only(f, want) || len(l) != 0 || len(m) != 0 {
			t.Errorf("%s: %v, %d, %d, %v", why, e, len(l), len(m), f)
		}
	})
}

// falling is a chain each of which needs the one with the name behind its own.
func falling(n int) []api.Named {
	out := chain(n, "f")
	for i := range out {
		out[i].Patch.Deps = nil
		if i < n-1 {
			out[i].Patch.Deps = []string{out[i+1].Name}
		}
	}
	return out
}

// namesOf are a set's names in its order.
func namesOf(set []api.Named) []string {
	out := make([]string, 0, len(set))
	for _, p := range set {
		out = append(out, p.Name)
	}
	return out
}

// backward is l from its end on.
func backward(l []string) []string {
	out := slices.Clone(l)
	slices.Reverse(out)
	return out
}

// P6.1, P6.2, P0: long chains.
func TestLongChains(t *testing.T) {
	const n = 300000
	up := chain(n, "c")
	names := namesOf(up)
	big(t, "a chain that rises", up, names, names[n-1:], names[n-1], names[:n-1])
	slices.Reverse(up)
	big(t, "a chain that rises, told against it", up, names, names[n-1:], names[n/2], names[:n/2])
	down := falling(n)
	names = namesOf(down)
	big(t, "a chain that falls", down, backward(names), names[:1], names[0], names[1:])
	slices.Reverse(down)
	big(t, "a chain that falls, told in its order", down, backward(names), names[:1], names[n/2], names[n/2+1:])
	refused(t, "a chain without its first", chain(n, "c")[1:], api.ErrDep)
	refused(t, "a chain twice", slices.Concat(chain(n, "c"), chain(n, "c")), api.ErrTwice)
}

// P6.1, P6.2, P0: wide sets.
func TestWideSets(t *testing.T) {
	const n = 300000
	free := chain(n, "w")
	for i := range free {
		free[i].Patch.Deps = nil
	}
	names := namesOf(free)
	slices.Reverse(free)
	big(t, "none needs any", free, names, names, names[n/2], nil)
	one := slices.Concat(free, []api.Named{named("a", names...)})
	big(t, "one needs all", one, append(slices.Clone(names), "a"), []string{"a"}, "a", names)
	all := clone(free)
	for i := range all {
		all[i].Patch.Deps = []string{"x"}
	}
	all = append(all, named("x"))
	big(t, "all need one", all, append([]string{"x"}, names...), names, names[n-1], []string{"x"})
	refused(t, "all need one that isn't there", all[:n], api.ErrDep)
	refused(t, "all need one that needs one of them", append(all[:n:n], named("x", names[n/3])), api.ErrDep)
}

// P6.1, P6.2, P0: patches that need all others ahead of them, and one Dep told often.
func TestManyDeps(t *testing.T) {
	const n = 1500
	var set []api.Named
	names := namesOf(chain(n, "t"))
	for i, name := range names {
		set = append(set, named(name, names[:i]...))
	}
	big(t, "each needs all ahead", set, names, names[n-1:], names[n-1], names[:n-1])
	slices.Reverse(set)
	big(t, "each needs all ahead, told against it", set, names, names[n-1:], names[n/2], names[:n/2])
	for i, name := range names {
		set[i] = named(name, names[i+1:]...)
	}
	big(t, "each needs all behind", set, backward(names), names[:1], names[0], names[1:])
	for i, name := range names {
		set[i] = named(name, names...)
	}
	refused(t, "each needs all", set, api.ErrDep)
	if l := order.Past(set, names[7]); !slices.Equal(l, names) {
		t.Errorf("each needs all: %d", len(l))
	}
	often := []api.Named{named("a", slices.Repeat([]string{"b"}, 1000000)...), named("b")}
	big(t, "a Dep told often", often, letters("ba"), letters("a"), "a", letters("b"))
}

// P6.1, P0: long rings: none of them is closed, the past of each name is all of them, and there are no heads.
func TestLongRings(t *testing.T) {
	for _, n := range []int{1000, 300000} {
		set := ring(n)
		refused(t, "a ring", set, api.ErrDep)
		names := namesOf(set)
		if l := order.Past(set, names[n/2]); !slices.Equal(l, names) {
			t.Errorf("a ring of %d: Past: %d", n, len(l))
		}
		if l := order.Heads(set); len(l) != 0 {
			t.Errorf("a ring of %d: Heads: %d", n, len(l))
		}
		set = behind(set, chain(n, "x"))
		refused(t, "a ring ahead of a chain", set, api.ErrDep)
		if l := order.Past(set, name("x", n-1)); len(l) != 2*n-1 {
			t.Errorf("a ring of %d ahead of a chain: Past: %d", n, len(l))
		}
		if l := order.Heads(set); !slices.Equal(l, []string{name("x", n-1)}) {
			t.Errorf("a ring of %d ahead of a chain: Heads: %d", n, len(l))
		}
	}
}
