package stx

import (
	"slices"

	"marginalia/api"
	"marginalia/wrap"
)

// worn answers the wrap that x itself has.
func worn(x api.Stx) wrap.Wrap { return wrap.Wrap{Marks: x.Marks, Subs: x.Subs} }

// wear gives x the wrap w in the place of its own.
func wear(x *api.Stx, w wrap.Wrap) { x.Marks, x.Subs = w.Marks, w.Subs }

// inner answers what around comes to with x's own wrap. Most pieces have none, and then it is around itself.
func inner(around wrap.Wrap, x api.Stx) (wrap.Wrap, api.Errno) {
	if wrap.Same(worn(x), wrap.Wrap{}) {
		return around, api.OK
	}
	return wrap.Join(around, worn(x))
}

// joins tells if x, within around, and each piece in it has a wrap that is sound, and that comes to a sound one with those around it, step by step.
func joins(x api.Stx, around wrap.Wrap) bool {
	w, e := inner(around, x)
	return e == api.OK && !slices.ContainsFunc(x.List, func(in api.Stx) bool { return !joins(in, w) })
}

// alike tells if a, within aroundA, and b, within aroundB, mean the same wraps at their Symbols. They are sound there, and have the same datum.
func alike(a, b api.Stx, aroundA, aroundB wrap.Wrap) bool {
	v, _ := inner(aroundA, a)
	w, _ := inner(aroundB, b)
	if a.Kind == api.Symbol {
		return wrap.Same(v, w)
	}
	return slices.EqualFunc(a.List, b.List, func(p, q api.Stx) bool { return alike(p, q, v, w) })
}

// open gives the wrap of x, which is sound, to the pieces that stand in it.
func open(x *api.Stx) {
	for i := range x.List {
		w, _ := wrap.Join(worn(*x), worn(x.List[i]))
		wear(&x.List[i], w)
	}
	wear(x, wrap.Wrap{})
}

// flatten gives the Symbols of x, which is sound within around, the wraps that they mean, and takes away all others.
func flatten(x *api.Stx, around wrap.Wrap) {
	w, _ := wrap.Join(around, worn(*x)) // not by inner: each Symbol's wrap has memory of its own
	for i := range x.List {
		flatten(&x.List[i], w)
	}
	if x.Kind != api.Symbol {
		w = wrap.Wrap{}
	}
	wear(x, w)
}
