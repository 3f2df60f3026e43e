package patch

import (
	"tambour/api"
	"tambour/terms"
)

// head tells a patch's bytes from those of other forms.
const head = "tambour"

// Write answers one error for whatever isn't right: that the bytes are too many is no other fault than the rest.
func Write(p api.Patch) (string, error) {
	if !sound(p) {
		return "", api.ErrPatch
	}
	s, err := terms.Write(form(p))
	if err != nil {
		return "", api.ErrPatch
	}
	return s, nil
}

func form(p api.Patch) api.Form {
	ops := make([]api.Form, 0, len(p.Ops))
	for _, o := range p.Ops {
		ops = append(ops, terms.List(terms.Num(o.Kind), refForm(o.A), refForm(o.B), textsForm(o.Lines)))
	}
	return terms.List(terms.Text(head), terms.Text(p.Note), textsForm(p.Deps), terms.List(ops...))
}

func refForm(r api.Ref) api.Form {
	return terms.List(terms.Num(r.At), terms.Num(r.N))
}

func textsForm(l []string) api.Form {
	texts := make([]api.Form, 0, len(l))
	for _, s := range l {
		texts = append(texts, terms.Text(s))
	}
	return terms.List(texts...)
}
