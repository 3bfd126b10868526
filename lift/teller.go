package lift

import (
	"marginalia/api"
	"marginalia/num"
	"marginalia/store"
	"marginalia/token"
	"marginalia/utf"
)

// teller makes datums of what is in its store; it gives up at the first datum that is one too many, so that objects which hold one another without end have one.
type teller struct {
	*store.Store
	count int // how many datums have begun
}

// datum answers the datum of v, which is sound, and stands that deep.
func (t *teller) datum(v api.Value, deep int) (api.Datum, api.Errno) {
	t.count++
	switch {
	case deep > api.MaxDepth:
		return api.Datum{}, api.ErrDeep
	case t.count > api.MaxNodes:
		return api.Datum{}, api.ErrLarge
	}
	switch v.Tag {
	case api.TNil:
		return api.Datum{Kind: api.List}, api.OK
	case api.TTrue:
		return api.Datum{Kind: api.True}, api.OK
	case api.TFalse:
		return api.Datum{Kind: api.False}, api.OK
	case api.TVoid:
		return api.Datum{Kind: api.Void}, api.OK
	case api.TFix:
		return api.Datum{Kind: api.Integer, Num: num.Of(v.N)}, api.OK
	case api.TChar:
		return api.Datum{Kind: api.Char, Text: text(v.N)}, api.OK
	case api.TSym:
		return t.symbol(v), api.OK
	case api.TObj:
		return t.object(v, deep)
	case api.TPrim:
		return other("procedure"), api.OK
	}
	return other("internal"), api.OK
}

// object answers the datum of v's object, which stands that deep.
func (t *teller) object(v api.Value, deep int) (api.Datum, api.Errno) {
	switch t.Kind(v) {
	case api.Pair:
		return t.pairs(v, deep)
	case api.Vec:
		return t.vector(v, deep)
	case api.Box:
		return other("box"), api.OK
	case api.Str:
		return t.characters(v)
	case api.Big:
		return t.integer(v), api.OK
	case api.Closure, api.Kont:
		return other("procedure"), api.OK
	case api.Syn:
		return other("syntax"), api.OK
	}
	return other("internal"), api.OK
}

// pairs answers the List or Dotted of the Pair v, which stands that deep.
func (t *teller) pairs(v api.Value, deep int) (api.Datum, api.Errno) {
	d := api.Datum{Kind: api.List}
	for t.Kind(v) == api.Pair { // ends where the Pairs go round, too, since each one has a datum
		if e := t.add(&d, t.slot(v, 0), deep+1); e != api.OK {
			return api.Datum{}, e
		}
		v = t.slot(v, 1)
	}
	if v.Tag == api.TNil {
		return d, api.OK
	}
	d.Kind = api.Dotted
	if e := t.add(&d, v, deep+1); e != api.OK {
		return api.Datum{}, e
	}
	return d, api.OK
}

// vector answers the Vector of the Vec v, which stands that deep.
func (t *teller) vector(v api.Value, deep int) (api.Datum, api.Errno) {
	d := api.Datum{Kind: api.Vector}
	for i := range t.Len(v) {
		if e := t.add(&d, t.slot(v, i), deep+1); e != api.OK {
			return api.Datum{}, e
		}
	}
	return d, api.OK
}

// add puts the datum of v, which stands that deep, behind those in d.
func (t *teller) add(d *api.Datum, v api.Value, deep int) api.Errno {
	in, e := t.datum(v, deep)
	if e == api.OK {
		d.List = append(d.List, in)
	}
	return e
}

// characters answers the String of the Str v.
func (t *teller) characters(v api.Value) (api.Datum, api.Errno) {
	if t.Len(v) > api.MaxString {
		return api.Datum{}, api.ErrLarge
	}
	var list []int
	for i := range t.Len(v) {
		c := t.slot(v, i)
		if c.Tag != api.TChar {
			return api.Datum{}, api.ErrLarge
		}
		list = append(list, c.N)
	}
	return api.Datum{Kind: api.String, Text: text(list...)}, api.OK
}

// symbol answers the datum of the symbol v, whose name may be that of none.
func (t *teller) symbol(v api.Value) api.Datum {
	name, _ := t.Name(v)
	d, ok := token.Atom(name)
	if !ok || d.Kind != api.Symbol {
		return other("symbol")
	}
	return d
}

// integer answers the datum of the Big v, which may be no number.
func (t *teller) integer(v api.Value) api.Datum {
	x, ok := t.number(v)
	if !ok {
		return other("internal")
	}
	return api.Datum{Kind: api.Integer, Num: x}
}

// number answers the integer whose value v is; false, if it is none's.
func (t *teller) number(v api.Value) (api.Int, bool) {
	if v.Tag == api.TFix {
		x := num.Of(v.N)
		_, ok := small(x)
		return x, ok
	}
	if t.Kind(v) != api.Big || t.Len(v) > 1+api.MaxLimbs {
		return api.Int{}, false
	}
	x, ok := t.limbs(v)
	_, fits := small(x) // then it is no Big
	return x, ok && num.Sound(x) && !fits
}

// limbs answers what the slots of the Big v say, sound or not; false, if one of them says nothing.
func (t *teller) limbs(v api.Value) (api.Int, bool) {
	neg := t.slot(v, 0) == fix(sign(true))
	if !neg && t.slot(v, 0) != fix(sign(false)) {
		return api.Int{}, false
	}
	x := api.Int{Neg: neg}
	for i := 1; i < t.Len(v); i++ {
		limb := t.slot(v, i)
		if limb.Tag != api.TFix || limb.N < 0 || limb.N >= api.Base {
			return api.Int{}, false
		}
		x.Limbs = append(x.Limbs, uint32(limb.N))
	}
	return x, true
}

// slot answers what slot i of v's object has, if it has one.
func (t *teller) slot(v api.Value, i int) api.Value {
	x, _ := t.Get(v, i)
	return x
}

// text answers the UTF-8 of characters.
func text(list ...int) string {
	b, _ := utf.Encode(list...)
	return string(b)
}

// other answers what stands for a value that no datum has.
func other(what string) api.Datum { return api.Datum{Kind: api.Other, Text: what} }
