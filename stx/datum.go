package stx

import (
	"slices"
	"strings"

	"marginalia/api"
	"marginalia/read"
)

// few tells if x has no more pieces, itself among them, and these no more limbs, than what is sound may have. It gives up at the first one too many, so that pieces which stand in one another without end have one.
func few(x api.Stx) bool {
	left := api.MaxNodes
	var over func(x api.Stx) bool
	over = func(x api.Stx) bool {
		left--
		return left < 0 || len(x.Num.Limbs) > api.MaxLimbs || slices.ContainsFunc(x.List, over)
	}
	return !over(x)
}

// may tells if d is a datum that a piece may have.
func may(d api.Datum) bool { return read.Sound(d) && !strange(d) }

// strange tells if an Other is in d, which is sound.
func strange(d api.Datum) bool {
	return d.Kind == api.Other || slices.ContainsFunc(d.List, strange)
}

// datum answers x's datum, sound or not.
func datum(x api.Stx) api.Datum {
	d := api.Datum{Kind: x.Kind, Text: strings.Clone(x.Text), Num: number(x.Num), At: x.At}
	for _, in := range x.List {
		d.List = append(d.List, datum(in))
	}
	return d
}

// piece answers d without any wrap.
func piece(d api.Datum) api.Stx {
	x := api.Stx{Kind: d.Kind, Text: strings.Clone(d.Text), Num: number(d.Num), At: d.At}
	for _, in := range d.List {
		x.List = append(x.List, piece(in))
	}
	return x
}

// copied answers x with memory of its own.
func copied(x api.Stx) api.Stx {
	x.Text, x.Num = strings.Clone(x.Text), number(x.Num)
	x.Marks, x.Subs = slices.Clone(x.Marks), slices.Clone(x.Subs)
	x.List = slices.Clone(x.List)
	for i, in := range x.List {
		x.List[i] = copied(in)
	}
	return x
}

// number answers n with memory of its own.
func number(n api.Int) api.Int { return api.Int{Neg: n.Neg, Limbs: slices.Clone(n.Limbs)} }
