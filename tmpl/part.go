package tmpl

import (
	"slices"

	"marginalia/api"
	"marginalia/stx"
	"marginalia/wrap"
)

// What a part comes to.
const (
	constant = iota // what it is
	variable        // a piece of a bind
	group           // what the parts in it come to, one behind the other
	escape          // what the one part in it comes to
)

// part is a template, or something in one, with what is known of it.
type part struct {
	role  int
	piece api.Stx // of a constant and a group: itself, Pushed by all that stands around it
	place int     // of a variable: where its bind stands
	parts []part  // of a group: what stands in it, but ellipses
	loops [][]int // for each ellipsis behind it, the outermost one first: the places of the binds that are gone through there
}

// part answers what is known of x, which has been Pushed by all around it, and stands at that level, behind so many ellipses; false, if it may not be. Where it is plain, ellipses are Symbols like others.
func (k known) part(x api.Stx, level int, plain bool) (part, bool) {
	if stx.Compound(x) {
		return k.group(x, level, plain)
	}
	if x.Kind == api.Symbol {
		if place, ok := k.names.Find(x); ok {
			return part{role: variable, place: place}, k.binds[place].Depth <= level
		}
	}
	return part{role: constant, piece: x}, plain || !k.ellipsis(x)
}

// group answers what is known of x, which is of a kind that has pieces in it.
func (k known) group(x api.Stx, level int, plain bool) (part, bool) {
	in := inside(x)
	if !plain && k.escapes(x.Kind, in) {
		thing, ok := k.part(in[1], level, true)
		return part{role: escape, parts: []part{thing}}, ok
	}
	parts, ok := k.row(x.Kind, in, level, plain)
	if !ok {
		return part{}, false
	}
	if !slices.ContainsFunc(parts, func(p part) bool { return p.role != constant }) {
		return part{role: constant, piece: x}, true
	}
	return part{role: group, piece: x, parts: parts}, true
}

// row answers the parts of what stands in something of that kind, each with the ellipses behind it.
func (k known) row(kind int, in []api.Stx, level int, plain bool) ([]part, bool) {
	var parts []part
	for at := 0; at < len(in); {
		ellipses := 0
		if !plain {
			ellipses = k.ellipses(kind, in[at+1:])
		}
		p, ok := k.part(in[at], level+ellipses, plain)
		if !ok {
			return nil, false
		}
		if p.loops, ok = k.loops(&p, level, ellipses); !ok {
			return nil, false
		}
		parts = append(parts, p)
		at += 1 + ellipses
	}
	return parts, true
}

// loops answers which binds, by their places, are gone through at each of so many ellipses behind p, the outermost one first; false, if none are at one of them. Around all of it there are as many more as the level says.
func (k known) loops(p *part, level, ellipses int) ([][]int, bool) {
	if ellipses == 0 {
		return nil, true
	}
	loops := make([][]int, ellipses)
	for place := range p.used() {
		for i := range min(k.binds[place].Depth-level, ellipses) {
			loops[i] = append(loops[i], place)
		}
	}
	return loops, len(loops[ellipses-1]) > 0 // what is gone through there is so at the others, too
}

// used answers the places of the binds that p has pieces of.
func (p *part) used() map[int]struct{} {
	used := map[int]struct{}{}
	p.gather(used)
	return used
}

// gather adds those places to used.
func (p *part) gather(used map[int]struct{}) {
	if p.role == variable {
		used[p.place] = struct{}{}
	}
	for i := range p.parts {
		p.parts[i].gather(used)
	}
}

// rising answers the places in used, the lowest one first.
func rising(used map[int]struct{}) []int {
	var places []int
	for place := range used {
		places = append(places, place)
	}
	slices.Sort(places)
	return places
}

// ellipsis tells if x is one.
func (k known) ellipsis(x api.Stx) bool {
	if x.Kind != api.Symbol || x.Text != "..." {
		return false
	}
	_, found := k.names.Find(x)
	return !found
}

// ellipses answers how many of them stand at the beginning of behind, which is the rest of something of that kind. What stands behind a dot is none of these.
func (k known) ellipses(kind int, behind []api.Stx) int {
	if kind == api.Dotted && len(behind) > 0 {
		behind = behind[:len(behind)-1]
	}
	many := slices.IndexFunc(behind, func(x api.Stx) bool { return !k.ellipsis(x) })
	if many < 0 {
		return len(behind)
	}
	return many
}

// escapes tells if what is of that kind, and has that in it, is a List of an ellipsis and one more thing.
func (k known) escapes(kind int, in []api.Stx) bool {
	return kind == api.List && len(in) == 2 && k.ellipsis(in[0])
}

// inside answers what stands in x, Pushed by x's wrap. That is not left to stx.Open, which looks through all of x, and would do so again for each list in it.
func inside(x api.Stx) []api.Stx {
	in := slices.Clone(x.List)
	for i, y := range in {
		w, _ := wrap.Join(wrap.Wrap{Marks: x.Marks, Subs: x.Subs}, wrap.Wrap{Marks: y.Marks, Subs: y.Subs})
		in[i].Marks, in[i].Subs = w.Marks, w.Subs
	}
	return in
}
