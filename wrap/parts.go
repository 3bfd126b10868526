package wrap

import (
	"slices"

	"marginalia/api"
)

// large tells if w has too many marks, or substitutions.
func (w Wrap) large() bool {
	return len(w.Marks) > api.MaxWrap || len(w.Subs) > api.MaxWrap
}

// marksMay tells if each mark of w may stand where it does.
func (w Wrap) marksMay() bool {
	for i, n := range w.Marks {
		if !markMay(n, i) {
			return false
		}
	}
	return true
}

// markMay tells if n may be the mark at that place.
func markMay(n, place int) bool { return n > 0 || n == api.Anti && place == 0 }

// subsMay tells if each substitution of w is a rib or a Shift, and each mark has its Shift.
func (w Wrap) subsMay() bool {
	shifts := 0
	for _, n := range w.Subs {
		if n < api.Shift {
			return false
		}
		if n == api.Shift {
			shifts++
		}
	}
	return shifts == len(w.Marks)
}

// endsMarked tells if the last thing in w, which is sound, is a mark that an Anti behind it takes away.
func (w Wrap) endsMarked() bool {
	marks, subs := len(w.Marks), len(w.Subs)
	return marks > 0 && w.Marks[marks-1] != api.Anti && w.Subs[subs-1] == api.Shift
}

// beginsAnti tells if the first thing in w, which is sound, is an Anti.
func (w Wrap) beginsAnti() bool {
	return len(w.Marks) > 0 && w.Marks[0] == api.Anti && w.Subs[0] == api.Shift
}

// withoutLast is w but for the last mark and the last substitution, which it has.
func (w Wrap) withoutLast() Wrap {
	return Wrap{Marks: w.Marks[:len(w.Marks)-1], Subs: w.Subs[:len(w.Subs)-1]}
}

// withoutFirst is w but for the first mark and the first substitution, which it has.
func (w Wrap) withoutFirst() Wrap {
	return Wrap{Marks: w.Marks[1:], Subs: w.Subs[1:]}
}

// around answers the marks of both, and the substitutions of both, in memory of its own.
func (w Wrap) around(inner Wrap) Wrap {
	return Wrap{Marks: slices.Concat(w.Marks, inner.Marks), Subs: slices.Concat(w.Subs, inner.Subs)}
}
