package patch

import (
	"math"

	"tambour/api"
	"tambour/terms"
)

// Read tells one error for whatever keeps s from being a patch's bytes: who was sent them can do no more about one
// fault than about another.
func Read(s string) (api.Patch, error) {
	f, err := terms.Read(s)
	if err != nil {
		return api.Patch{}, fault()
	}
	var r reader
	p := r.patch(f)
	if r.wrong || !Right(p) {
		return api.Patch{}, fault()
	}
	return p, nil
}

func fault() error {
	return &api.Fault{What: "patch", Err: api.ErrPatch}
}

// reader takes forms as parts of a patch. It goes on where one is none, and is wrong from then on: what it answers is
// of no use any more.
type reader struct {
	wrong bool
}

func (r *reader) patch(f api.Form) api.Patch {
	parts := r.parts(f, 4)
	if r.text(parts[0]) != head {
		r.wrong = true
	}
	return api.Patch{Note: r.text(parts[1]), Deps: r.texts(parts[2]), Ops: r.ops(parts[3])}
}

func (r *reader) ops(f api.Form) []api.Op {
	var out []api.Op
	for _, item := range r.list(f) {
		parts := r.parts(item, 4)
		out = append(out, api.Op{Kind: r.number(parts[0]), A: r.ref(parts[1]), B: r.ref(parts[2]), Lines: r.texts(parts[3])})
	}
	return out
}

func (r *reader) ref(f api.Form) api.Ref {
	parts := r.parts(f, 2)
	return api.Ref{At: r.number(parts[0]), N: r.number(parts[1])}
}

// number leaves it to Right which numbers there may be.
func (r *reader) number(f api.Form) int {
	n, err := terms.Number(f, math.MinInt, math.MaxInt)
	if err != nil {
		r.wrong = true
	}
	return n
}

func (r *reader) texts(f api.Form) []string {
	var out []string
	for _, item := range r.list(f) {
		out = append(out, r.text(item))
	}
	return out
}

func (r *reader) text(f api.Form) string {
	if f.List {
		r.wrong = true
	}
	return f.Text
}

func (r *reader) list(f api.Form) []api.Form {
	if !f.List {
		r.wrong = true
	}
	return f.Items
}

// parts answers n forms in any case, so that whoever asks needn't count.
func (r *reader) parts(f api.Form, n int) []api.Form {
	items := r.list(f)
	if len(items) != n {
		r.wrong = true
		return make([]api.Form, n)
	}
	return items
}
