package store

import (
	"strings"

	"marginalia/api"
)

// object has slots or, if it is a Syn, a piece of syntax.
type object struct {
	kind  int
	cells int // how many it takes
	slots []api.Value
	piece *api.Stx
}

// copied answers o with memory of its own.
func (o object) copied() object {
	o.slots = own(o.slots)
	if o.piece != nil {
		piece := copied(*o.piece)
		o.piece = &piece
	}
	return o
}

// weigh answers how many cells an object with x takes; false, if there is not so much room. Since pieces may stand in one another without end, it gives up at the first one for which there is none.
func weigh(x api.Stx, room int) (int, bool) {
	cells := 1
	for left := [][]api.Stx{{x}}; len(left) > 0; {
		var list []api.Stx
		list, left = last(left)
		for i := range list {
			p := &list[i]
			cells += 1 + len(p.Marks) + len(p.Subs) + len(p.Num.Limbs)
			if cells > room {
				return 0, false
			}
			left = append(left, p.List)
		}
	}
	return cells, true
}

// copied answers x with memory of its own. It does not call itself, so that no depth is too great.
func copied(x api.Stx) api.Stx {
	whole := []api.Stx{x}
	for left := [][]api.Stx{whole}; len(left) > 0; {
		var list []api.Stx
		list, left = last(left)
		for i := range list {
			p := &list[i]
			p.Text = strings.Clone(p.Text)
			p.Num.Limbs, p.Marks, p.Subs = own(p.Num.Limbs), own(p.Marks), own(p.Subs)
			p.List = own(p.List)
			left = append(left, p.List)
		}
	}
	return whole[0]
}

// own answers list with memory of its own.
func own[T any](list []T) []T { return append([]T(nil), list...) }

// last answers the last one of list, and those ahead of it.
func last[T any](list []T) (T, []T) {
	n := len(list) - 1
	return list[n], list[:n]
}
