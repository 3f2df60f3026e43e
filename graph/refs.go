package graph

import (
	"slices"

	"tambour/api"
	"tambour/patch"
)

// A Ref's At, where it is no place of Deps.
const (
	edge = -1 // the top, the bottom
	own  = -2 // a line of the patch itself
)

// wrong asks for a name too: ids with an empty one are those of the top and the bottom.
func wrong(p api.Named) bool {
	return p.Name == "" || !patch.Right(p.Patch)
}

// lacks asks p's refs to other patches alone: those to its own lines are right, as p is.
func (s *sketch) lacks(p api.Named) bool {
	return slices.ContainsFunc(p.Patch.Ops, func(o api.Op) bool {
		return slices.ContainsFunc(refs(o), func(r api.Ref) bool {
			return r.At >= 0 && r.N >= s.lots[p.Patch.Deps[r.At]].made
		})
	})
}

// refs are those that o's kind tells: the B of a Delete and of a Revive looks like one, and is none.
func refs(o api.Op) []api.Ref {
	if o.Kind == api.OpDelete || o.Kind == api.OpRevive {
		return []api.Ref{o.A}
	}
	return []api.Ref{o.A, o.B}
}

// place is where the vertex lies that a ref of p means.
func (s *sketch) place(p api.Named, r api.Ref) int {
	switch r.At {
	case edge:
		return r.N
	case own:
		return s.lots[p.Name].first + r.N
	}
	return s.lots[p.Patch.Deps[r.At]].first + r.N
}
