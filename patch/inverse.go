package patch

import (
	"slices"

	"tambour/api"
)

// Inverse asks Right of what comes of p, as that may have more ops and Deps than p.
func Inverse(p api.Patch) (api.Patch, error) {
	name, err := Name(p)
	if err != nil {
		return api.Patch{}, err
	}
	v := inverter{deps: p.Deps, name: name, needs: needs(p, name)}
	q := api.Patch{Note: "undo", Deps: v.needs, Ops: v.all(p)}
	if !Right(q) {
		return api.Patch{}, api.ErrBig
	}
	return q, nil
}

// needs are the inverse's Deps. What a New stands between isn't named there, as its own lines alone are deleted.
func needs(p api.Patch, name string) []string {
	out := []string{name}
	for _, o := range p.Ops {
		for _, r := range named(o) {
			if r.At >= 0 {
				out = append(out, p.Deps[r.At])
			}
		}
	}
	slices.Sort(out)
	return slices.Compact(out)
}

// named are the refs that o's inverse takes over from it.
func named(o api.Op) []api.Ref {
	switch o.Kind {
	case api.OpJoin:
		fallthrough
	case api.OpCut:
		return []api.Ref{o.A, o.B}
	case api.OpDelete:
		fallthrough
	case api.OpRevive:
		return []api.Ref{o.A}
	}
	return nil
}

// inverter takes back the ops of the patch that has these deps and this name; needs are the inverse's own Deps.
type inverter struct {
	deps  []string
	name  string
	needs []string
}

// all goes from the last op to the first, and so through the lines that the patch has made, from the last one on.
func (v inverter) all(p api.Patch) []api.Op {
	var out []api.Op
	made := Made(p)
	for _, o := range slices.Backward(p.Ops) {
		if o.Kind != api.OpNew {
			out = append(out, v.op(o))
			continue
		}
		for range o.Lines {
			made--
			out = append(out, api.Op{Kind: api.OpDelete, A: v.ref(api.Ref{At: own, N: made})})
		}
	}
	return out
}

// op takes back one that isn't New.
func (v inverter) op(o api.Op) api.Op {
	switch o.Kind {
	case api.OpJoin:
		return api.Op{Kind: api.OpCut, A: v.ref(o.A), B: v.ref(o.B)}
	case api.OpCut:
		return api.Op{Kind: api.OpJoin, A: v.ref(o.A), B: v.ref(o.B)}
	case api.OpDelete:
		return api.Op{Kind: api.OpRevive, A: v.ref(o.A)}
	}
	return api.Op{Kind: api.OpDelete, A: v.ref(o.A)}
}

// ref is r as the inverse tells it.
func (v inverter) ref(r api.Ref) api.Ref {
	switch r.At {
	case edge:
		return r
	case own:
		return v.line(v.name, r.N)
	}
	return v.line(v.deps[r.At], r.N)
}

func (v inverter) line(name string, n int) api.Ref {
	return api.Ref{At: slices.Index(v.needs, name), N: n}
}
