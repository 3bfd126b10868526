package rib

import (
	"strings"

	"marginalia/api"
)

// entry is what an identifier is held against at a rib.
type entry struct {
	rib   int
	name  string
	marks string // as written has them, for a list is no key
}

// entryOf answers the entry of id in that rib.
func entryOf(rib int, id api.Stx) entry {
	return entry{rib, strings.Clone(id.Text), written(id.Marks)} // what the name is cut from is not held
}

// wide is how many bytes a mark takes where it is written.
const wide = 8

// written answers marks as a text. All take as many bytes, so that what is left without the first mark is cut from it.
func written(marks []int) string {
	var text strings.Builder
	for _, mark := range marks {
		for at := range wide {
			text.WriteByte(byte(mark >> (8 * at)))
		}
	}
	return text.String()
}

// has tells if there is a rib of that number.
func (r *Ribs) has(rib int) bool { return rib >= 1 && int64(rib) <= r.ribs.Load() }

// enter gives the label to an entry that is not there yet.
func (r *Ribs) enter(of entry, label int) api.Errno {
	if r.labels[of] != 0 {
		return api.ErrForm
	}
	if r.labels == nil {
		r.labels = map[entry]int{}
	}
	r.labels[of] = label
	return api.OK
}

// seek answers the label that id, which is an identifier, means; 0, if it means none.
func (r *Ribs) seek(id api.Stx) int {
	left := written(id.Marks)
	for _, sub := range id.Subs {
		if sub == api.Shift {
			left = left[wide:] // id has a mark for each Shift
			continue
		}
		if label := r.labels[entry{sub, id.Text, left}]; label != 0 {
			return label
		}
	}
	return 0
}
