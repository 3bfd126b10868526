package tmpl

import (
	"slices"
	"strings"

	"marginalia/api"
	"marginalia/stx"
)

// filler makes what parts come to.
type filler struct {
	trees []*api.Tree // what each bind stands for where it is gone through just now
	left  int         // how many pieces more may be made
}

// fillerOf answers a filler that has made nothing yet.
func fillerOf(binds []api.Bind) *filler {
	f := &filler{left: api.MaxNodes}
	for i := range binds {
		f.trees = append(f.trees, &binds[i].Tree)
	}
	return f
}

// fill answers what p comes to each time, whatever ellipses stand behind it.
func (f *filler) fill(p *part) (api.Stx, api.Errno) {
	switch p.role {
	case constant:
		return f.copied(p.piece), api.OK
	case variable:
		return f.copied(f.trees[p.place].One), api.OK
	case escape:
		return f.fill(&p.parts[0])
	}
	if p.piece.Kind == api.Dotted {
		return f.dotted(p)
	}
	list, e := f.row(p.parts)
	if e != api.OK {
		return api.Stx{}, e
	}
	return f.made(p, p.piece.Kind, list), api.OK
}

// dotted answers what p, which is a Dotted, comes to.
func (f *filler) dotted(p *part) (api.Stx, api.Errno) {
	dot := len(p.parts) - 1
	list, e := f.row(p.parts[:dot])
	if e != api.OK {
		return api.Stx{}, e
	}
	last, e := f.fill(&p.parts[dot])
	switch {
	case e != api.OK || len(list) == 0:
		return last, e
	case last.Kind == api.List || last.Kind == api.Dotted:
		f.left++ // it is no piece of its own any more
		opened, _ := stx.Open(last)
		return f.made(p, last.Kind, append(list, opened.List...)), api.OK
	}
	return f.made(p, api.Dotted, append(list, last)), api.OK
}

// made answers the piece of that kind, with list in it, that stands where p does.
func (f *filler) made(p *part, kind int, list []api.Stx) api.Stx {
	f.left--
	return api.Stx{Kind: kind, At: p.piece.At, List: list}
}

// row answers what the parts come to, one behind the other.
func (f *filler) row(parts []part) ([]api.Stx, api.Errno) {
	var list []api.Stx
	for i := range parts {
		var e api.Errno
		if list, e = f.add(list, &parts[i], parts[i].loops); e != api.OK {
			return nil, e
		}
	}
	return list, api.OK
}

// add answers list, and behind it all that p comes to as it is gone through at these loops.
func (f *filler) add(list []api.Stx, p *part, loops [][]int) ([]api.Stx, api.Errno) {
	if len(loops) == 0 {
		x, e := f.fill(p)
		if e == api.OK && f.left < 0 { // here already, for there could be very much of it
			e = api.ErrLarge
		}
		return append(list, x), e
	}
	going, times, ok := f.going(loops[0])
	if !ok {
		return nil, api.ErrSyntax
	}
	for i := range times {
		for at, place := range loops[0] {
			f.trees[place] = &going[at].All[i]
		}
		var e api.Errno
		if list, e = f.add(list, p, loops[1:]); e != api.OK {
			return nil, e
		}
	}
	for at, place := range loops[0] {
		f.trees[place] = going[at]
	}
	return list, api.OK
}

// going answers what the binds at these places stand for, and how many Trees each one has; false, if they have not as many as one another.
func (f *filler) going(places []int) ([]*api.Tree, int, bool) {
	var going []*api.Tree
	for _, place := range places {
		going = append(going, f.trees[place])
	}
	times := len(going[0].All)
	return going, times, !slices.ContainsFunc(going, func(tree *api.Tree) bool { return len(tree.All) != times })
}

// copied answers x with memory of its own.
func (f *filler) copied(x api.Stx) api.Stx {
	f.left--
	x.Text, x.Num.Limbs = strings.Clone(x.Text), slices.Clone(x.Num.Limbs)
	x.Marks, x.Subs = slices.Clone(x.Marks), slices.Clone(x.Subs)
	x.List = slices.Clone(x.List)
	for i, in := range x.List {
		x.List[i] = f.copied(in)
	}
	return x
}
