package redo

import (
	"strings"

	"tambour/api"
	"tambour/digest"
	"tambour/terms"
)

const (
	word = "redo"
	zero = "\x00"
)

// headOf is the head that tells a commit of these pages, without the bytes 0 behind it.
func headOf(l []api.Page) (string, error) {
	var numbers []api.Form
	var data strings.Builder
	for _, p := range l {
		numbers = append(numbers, terms.Num(p.No))
		data.WriteString(p.Data + strings.Repeat(zero, api.Sector-len(p.Data)))
	}
	list := terms.List(numbers...)
	text, err := terms.Write(list)
	if err != nil {
		return "", err
	}
	return terms.Write(terms.List(terms.Text(word), list, terms.Text(digest.Sum(text+data.String()))))
}

// toDo is the commit that the head's bytes tell, with its data from the log: no pages, if the head is empty; ErrDisk, if it is neither that nor counts. Nothing in a head is believed but what headOf would have told of the same pages.
func (r *Redo) toDo(told string) ([]api.Page, error) {
	// A list's bytes end with a bracket, so that none of the bytes 0 are its own.
	told = strings.TrimRight(told, zero)
	if told == emptyHead {
		return nil, nil
	}
	l, err := r.numbered(told)
	if err != nil {
		return nil, err
	}
	for place := range l {
		if l[place].Data, err = r.disk.Read(log + place); err != nil {
			return nil, err
		}
	}
	text, err := headOf(l)
	if err != nil {
		return nil, err
	}
	if text != told {
		return nil, api.ErrDisk
	}
	return l, nil
}

// numbered are the pages whose numbers a head tells, without their data.
func (r *Redo) numbered(told string) ([]api.Page, error) {
	f, err := terms.Read(told)
	if err != nil || len(f.Items) != 3 || len(f.Items[1].Items) > api.MaxPages {
		return nil, api.ErrDisk
	}
	var l []api.Page
	for _, item := range f.Items[1].Items {
		no, err := terms.Number(item, 0, r.Pages()-1)
		if err != nil {
			return nil, api.ErrDisk
		}
		l = append(l, api.Page{No: no})
	}
	if !r.right(l) {
		return nil, api.ErrDisk
	}
	return l, nil
}
