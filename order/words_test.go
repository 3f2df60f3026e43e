package order_test

import (
	"fmt"
	"math/rand"
	"slices"
	"strings"
	"testing"

	"tambour/api"
	"tambour/order"
)

// isIn says whether it is the name of one of the set.
func isIn(set []api.Named, name string) bool {
	return slices.ContainsFunc(set, func(p api.Named) bool { return p.Name == name })
}

// pastOf says in the chapter's words what is a name's past: it goes on as long as there is something to add.
func pastOf(set []api.Named, name string) []string {
	out := map[string]bool{}
	for grown := true; grown; {
		grown = false
		for _, p := range set {
			for _, d := range p.Patch.Deps {
				if (p.Name == name || out[p.Name]) && isIn(set, d) && !out[d] {
					out[d], grown = true, true
				}
			}
		}
	}
	var all []string
	for n := range out {
		all = append(all, n)
	}
	slices.Sort(all)
	return all
}

// faultOf says in the chapter's words what Check answers.
func faultOf(set []api.Named) api.Errno {
	for i, p := range set {
		if isIn(set[:i], p.Name) {
			return api.ErrTwice
		}
	}
	for _, p := range set {
		if slices.Contains(pastOf(set, p.Name), p.Name) || slices.ContainsFunc(p.Patch.Deps, func(d string) bool { return !isIn(set, d) }) {
			return api.ErrDep
		}
	}
	return api.OK
}

// lineOf says in the chapter's words what Linear answers of a set that is closed.
func lineOf(set []api.Named) []string {
	var out []string
	for len(out) < len(set) {
		var may []string
		for _, p := range set {
			told := func(d string) bool { return slices.Contains(out, d) }
			if !told(p.Name) && !slices.ContainsFunc(p.Patch.Deps, func(d string) bool { return !told(d) }) {
				may = append(may, p.Name)
			}
		}
		out = append(out, slices.Min(may))
	}
	return out
}

// headsOf says in the chapter's words what Heads answers.
func headsOf(set []api.Named) []string {
	var out []string
	for _, p := range set {
		needs := func(q api.Named) bool { return slices.Contains(q.Patch.Deps, p.Name) }
		if !slices.ContainsFunc(set, needs) && !slices.Contains(out, p.Name) {
			out = append(out, p.Name)
		}
	}
	slices.Sort(out)
	return out
}

// asTheWordsSay holds each call on the set against them; have is what Missing is told, beside nothing and each name alone.
func asTheWordsSay(t *testing.T, set []api.Named, have ...string) {
	t.Helper()
	was := clone(set)
	fault := faultOf(set)
	var line []string
	if fault == api.OK {
		line = lineOf(set)
	}
	if e := order.Check(set); !only(e, fault) {
		t.Errorf("Check(%.300s) = %v, want %v", plain(set), e, fault)
	}
	l, e := order.Linear(set)
	if !only(e, fault) || !slices.Equal(l, line) {
		t.Errorf("Linear(%.300s) = %.300q, %v, want %.300q, %v", plain(set), l, e, line, fault)
	}
	eachBehindItsPast(t, set, l)
	if l, want := order.Heads(set), headsOf(set); !slices.Equal(l, want) {
		t.Errorf("Heads(%.300s) = %.300q, want %.300q", plain(set), l, want)
	}
	haves := [][]string{nil, have, line}
	for _, n := range namesIn(set) {
		if l, want := order.Past(set, n), pastOf(set, n); !slices.Equal(l, want) {
			t.Errorf("Past(%.300s, %q) = %.300q, want %.300q", plain(set), n, l, want)
		}
		haves = append(haves, []string{n})
	}
	for _, h := range haves {
		l, e := order.Missing(set, h)
		want := slices.DeleteFunc(slices.Clone(line), func(n string) bool { return slices.Contains(h, n) })
		if !only(e, fault) || !slices.Equal(l, want) {
			t.Errorf("Missing(%.300s, %.300q) = %.300q, %v, want %.300q, %v", plain(set), h, l, e, want, fault)
		}
	}
	if !same(set, was) {
		t.Errorf("%.300s is %.300s now", plain(was), plain(set))
	}
}

// namesIn are all names that the set tells, its Deps' too, and one that it doesn't.
func namesIn(set []api.Named) []string {
	out := []string{"another one"}
	for _, p := range set {
		out = append(append(out, p.Name), p.Patch.Deps...)
	}
	slices.Sort(out)
	return slices.Compact(out)
}

// eachBehindItsPast is P6.2: each name of the line stands behind its past, and each beginning of it is closed.
func eachBehindItsPast(t *testing.T, set []api.Named, line []string) {
	t.Helper()
	var begun []api.Named
	for i, n := range line {
		for _, d := range order.Past(set, n) {
			if !slices.Contains(line[:i], d) {
				t.Errorf("%.300s: %q stands ahead of %q in %.300q", plain(set), n, d, line)
			}
		}
		begun = append(begun, set[slices.IndexFunc(set, func(p api.Named) bool { return p.Name == n })])
		if e := order.Check(begun); e != nil || faultOf(begun) != api.OK {
			t.Errorf("%.300s: a beginning of %.300q isn't closed: %v", plain(set), line, e)
		}
	}
}

// P6.1, P6.2: all sets of up to three patches with three names, and a Dep that is none of them; up to two in all orders, three in one of theirs.
func TestSmallSets(t *testing.T) {
	var all []api.Named
	for _, n := range letters("abc") {
		for bits := range 16 {
			p := named(n)
			for i, d := range letters("abcz") {
				if bits&(1<<i) != 0 {
					p.Patch.Deps = append(p.Patch.Deps, d)
				}
			}
			all = append(all, p)
		}
	}
	for i, p := range all {
		asTheWordsSay(t, []api.Named{p})
		for j, q := range all[i:] {
			asTheWordsSay(t, []api.Named{p, q})
			asTheWordsSay(t, []api.Named{q, p})
			for k, r := range all[i+j:] {
				orders := turns([]api.Named{p, q, r})
				asTheWordsSay(t, orders[(i+j+k)%len(orders)])
			}
		}
	}
}

// P6.1, P6.2: all closed sets of five names of which each needs some of those ahead of it, the names lying in several orders.
func TestSmallClosedSets(t *testing.T) {
	for k, names := range [][]string{letters("abcde"), letters("edcba"), letters("caebd"), letters("bdace"), letters("ebdac"), letters("cdeab")} {
		for bits := range 1 << 10 {
			var set []api.Named
			next := 0
			for i, n := range names {
				p := named(n)
				for _, d := range names[:i] {
					if bits&(1<<next) != 0 {
						p.Patch.Deps = append(p.Patch.Deps, d)
					}
					next++
				}
				set = append(set, p)
			}
			asTheWordsSay(t, set, names[0], names[2])
			if bits%16 == k {
				alikeInAllOrders(t, set)
			}
		}
	}
}

// answers tells what each call says of a set.
func answers(set []api.Named, have []string) string {
	var out strings.Builder
	l, e := order.Linear(set)
	m, f := order.Missing(set, have)
	fmt.Fprintf(&out, "%v; %q %v; %q; %q %v", order.Check(set), l, e, order.Heads(set), m, f)
	for _, n := range namesIn(set) {
		fmt.Fprintf(&out, "; %q: %q", n, order.Past(set, n))
	}
	return out.String()
}

// alikeInAllOrders holds what is said of a set told in other orders, the Deps in other orders too, against each other.
func alikeInAllOrders(t *testing.T, set []api.Named) {
	t.Helper()
	var have []string
	if len(set) > 1 {
		have = []string{set[1].Name, "z", set[0].Name, set[1].Name}
	}
	want := answers(set, have)
	back := slices.Clone(have)
	slices.Reverse(back)
	for _, s := range turns(set) {
		if got := answers(s, have); got != want {
			t.Errorf("%.300s: %.300s, but %.300s: %.300s", plain(set), want, plain(s), got)
		}
		s = clone(s)
		for _, p := range s {
			slices.Reverse(p.Patch.Deps)
		}
		if got := answers(s, back); got != want {
			t.Errorf("%.300s: %.300s, but %.300s: %.300s", plain(set), want, plain(s), got)
		}
	}
}

// anySet is one of up to n patches with names of any kind: most need those with names ahead of theirs in a line of its
// own; mistakes of a hundred Deps are any name.
func anySet(r *rand.Rand, n, mistakes int) []api.Named {
	pool := make([]string, 1+r.Intn(n))
	for i := range pool {
		pool[i] = []string{fmt.Sprintf("%064x", r.Int63()), strings.Repeat("a", r.Intn(10)), fmt.Sprint(r.Intn(100)), string([]byte{byte(r.Intn(256)), byte(r.Intn(256))})}[r.Intn(4)]
	}
	if r.Intn(100) >= mistakes {
		slices.Sort(pool)
		pool = slices.Compact(pool)
		r.Shuffle(len(pool), func(i, j int) { pool[i], pool[j] = pool[j], pool[i] })
	}
	var set []api.Named
	for i, name := range pool {
		p := named(name)
		for range r.Intn(4) {
			if r.Intn(100) < mistakes {
				p.Patch.Deps = append(p.Patch.Deps, append(pool, "none")[r.Intn(len(pool)+1)])
			} else if i > 0 {
				p.Patch.Deps = append(p.Patch.Deps, pool[r.Intn(i)])
			}
		}
		set = append(set, p)
	}
	r.Shuffle(len(set), func(i, j int) { set[i], set[j] = set[j], set[i] })
	return set
}

// P6.1, P6.2: thousands of sets with names of any kind.
func TestAnySets(t *testing.T) {
	r := rand.New(rand.NewSource(6))
	closed := 0
	for i := range 3000 {
		set := anySet(r, 16, []int{0, 1, 10}[i%3])
		var have []string
		for _, p := range set {
			if r.Intn(2) == 0 {
				have = append(have, p.Name)
			}
		}
		asTheWordsSay(t, set, have...)
		alikeInAllOrders(t, set)
		if order.Check(set) == nil {
			closed++
		}
	}
	if closed < 2000 || closed > 2900 {
		t.Errorf("%d closed", closed)
	}
	for range 20 {
		asTheWordsSay(t, anySet(r, 60, 0))
		asTheWordsSay(t, anySet(r, 60, 1))
	}
}

// FuzzOrder reads a set from text: a line a patch, its words the name and the Deps.
func FuzzOrder(f *testing.F) {
	for _, s := range []string{"", "a\nb a\nc a", "a a", "a b\nb a", "a\na", "a z", " \n\n", "c a\nd b c\nb a\na"} {
		f.Add(s, "a c z")
	}
	f.Fuzz(func(t *testing.T, s, have string) {
		var set []api.Named
		for l := range strings.SplitSeq(s, "\n") {
			if len(set) == 12 {
				break
			}
			all := strings.Split(l, " ")
			set = append(set, named(all[0], all[1:min(len(all), 9)]...))
		}
		asTheWordsSay(t, set, strings.Split(have, " ")...)
		alikeInAllOrders(t, set)
	})
}
