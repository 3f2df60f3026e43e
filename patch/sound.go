package patch

import (
	"strings"

	"tambour/api"
	"tambour/digest"
	"tambour/lines"
)

// A Ref's At, where it is no place of Deps.
const (
	edge = -1 // the top, the bottom
	own  = -2 // a line of the patch itself
)

// A Ref's N at an edge.
const (
	top    = 0
	bottom = 1
)

// sound asks all that makes p right but the number of its bytes. It asks how many there are ahead of what they are, so
// that however much is handed in no more than the limits is gone through.
func sound(p api.Patch) bool {
	if len(p.Note) > api.MaxNote || len(p.Ops) > api.MaxOps || !rising(p.Deps) {
		return false
	}
	c := checker{deps: len(p.Deps)}
	for _, o := range p.Ops {
		if !c.op(o) {
			return false
		}
		c.made += len(o.Lines)
	}
	return true
}

func rising(deps []string) bool {
	if len(deps) > api.MaxDeps {
		return false
	}
	for i, name := range deps {
		if !digest.Right(name) || i > 0 && name <= deps[i-1] {
			return false
		}
	}
	return true
}

// checker asks a patch's ops in their order: how many Deps it has, how many lines the ops ahead have made.
type checker struct {
	deps, made int
}

func (c checker) op(o api.Op) bool {
	switch o.Kind {
	case api.OpNew:
		return c.lines(o.Lines) && c.between(o.A, o.B)
	case api.OpJoin:
		fallthrough
	case api.OpCut:
		return len(o.Lines) == 0 && c.between(o.A, o.B)
	case api.OpDelete:
		fallthrough
	case api.OpRevive:
		return len(o.Lines) == 0 && o.B == api.Ref{} && o.A.At >= 0 && c.ref(o.A)
	}
	return false
}

func (c checker) lines(all []string) bool {
	if len(all) == 0 || len(all) > api.MaxLines-c.made {
		return false
	}
	for _, line := range all {
		if len(line) > api.MaxLine || strings.Contains(line, "\n") || lines.Marker(line) {
			return false
		}
	}
	return true
}

func (c checker) between(a, b api.Ref) bool {
	return c.ref(a) && c.ref(b) && a != b && a != api.Ref{At: edge, N: bottom} && b != api.Ref{At: edge, N: top}
}

func (c checker) ref(r api.Ref) bool {
	switch r.At {
	case edge:
		return r.N == top || r.N == bottom
	case own:
		return 0 <= r.N && r.N < c.made
	}
	return 0 <= r.At && r.At < c.deps && 0 <= r.N && r.N < api.MaxLines
}
