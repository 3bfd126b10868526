package pat

import (
	"marginalia/api"
	"marginalia/stx"
)

// What a shape matches.
const (
	leaf     = iota // the same leaf
	literal         // what means the same
	wild            // all
	variable        // all, and it stands for that
	group           // what has pieces that go with its parts
)

// none is the place of what is not there.
const none = -1

// shape is a pattern that may be, with what is known of it.
type shape struct {
	role  int
	piece api.Stx // of a leaf and a literal: itself, with all wraps around it joined
	kind  int     // of a group
	parts []shape // of a group: what stands in it, but an ellipsis
	many  int     // of a group: which part stands ahead of the ellipsis, or none
	vars  int     // how many variables are in it
}

// row is a shape and what stands across from it: one piece or, if it stands ahead of an ellipsis, any number.
type row struct {
	shape  *shape
	many   bool
	pieces []api.Stx
}

// rows answers what in x, which is sound, stands across from the parts of s, which is a group; false, if there is too little or too much of it.
func (s *shape) rows(x api.Stx) ([]row, bool) {
	if x.Kind != s.kind && (s.kind != api.Dotted || x.Kind != api.List) {
		return nil, false
	}
	opened, _ := stx.Open(x)
	if s.kind == api.Dotted {
		return s.dotted(opened)
	}
	return align(s.parts, s.many, opened.List)
}

// dotted answers rows for s, which is Dotted, and x, which is opened, and a List or Dotted.
func (s *shape) dotted(x api.Stx) ([]row, bool) {
	dot, end := len(s.parts)-1, len(x.List)
	if x.Kind == api.Dotted {
		end--
	}
	if s.many == none {
		end = min(end, dot) // what is behind these is for the part behind the dot
	}
	rows, ok := align(s.parts[:dot], s.many, x.List[:end])
	if !ok {
		return nil, false
	}
	return append(rows, row{&s.parts[dot], false, []api.Stx{rest(x, end)}}), true
}

// rest answers what is left of x, which is opened, behind so many pieces.
func rest(x api.Stx, behind int) api.Stx {
	if isTail(x, behind) {
		return x.List[behind]
	}
	x.List = x.List[behind:]
	return x
}

// align answers which of pieces stand across from which of parts, the one at many having all that the others leave; false, if they are too few or too many.
func align(parts []shape, many int, pieces []api.Stx) ([]row, bool) {
	left := len(pieces) - len(parts) + 1 // for one part, if each other one has its piece
	if left < 0 || many == none && left != 1 {
		return nil, false
	}
	var rows []row
	for i := range parts {
		n := 1
		if i == many {
			n = left
		}
		rows = append(rows, row{&parts[i], i == many, pieces[:n]})
		pieces = pieces[n:]
	}
	return rows, true
}

// trees answers what the variables in s, in order, stand for where it matches x.
func (s *shape) trees(x api.Stx) []api.Tree {
	switch {
	case s.role == variable:
		return []api.Tree{{One: x}}
	case s.vars == 0:
		return nil
	}
	all := make([]api.Tree, 0, s.vars)
	rows, _ := s.rows(x)
	for _, r := range rows {
		all = append(all, r.trees()...)
	}
	return all
}

// trees answers what the variables in the row's shape, in order, stand for.
func (r row) trees() []api.Tree {
	if !r.many {
		return r.shape.trees(r.pieces[0])
	}
	all := make([]api.Tree, r.shape.vars)
	for i := range all {
		all[i] = api.Tree{Many: true, All: make([]api.Tree, 0, len(r.pieces))}
	}
	for _, x := range r.pieces {
		for i, tree := range r.shape.trees(x) {
			all[i].All = append(all[i].All, tree)
		}
	}
	return all
}
