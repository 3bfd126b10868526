package lift

import (
	"marginalia/api"
	"marginalia/store"
	"marginalia/utf"
)

// maker makes values of what is sound, in its store.
type maker struct{ *store.Store }

// value answers the value of d, in which no Other is.
func (m maker) value(d api.Datum) (api.Value, api.Errno) {
	switch d.Kind {
	case api.List, api.Dotted:
		return m.pairs(d)
	case api.Vector:
		return m.vector(d.List)
	case api.Symbol:
		return m.Symbol(d.Text)
	case api.String:
		return m.Make(api.Str, characters(d.Text)...)
	case api.Char:
		return characters(d.Text)[0], api.OK // what is sound has just one
	case api.Integer:
		return m.integer(d.Num)
	case api.True:
		return api.Value{Tag: api.TTrue}, api.OK
	case api.False:
		return api.Value{Tag: api.TFalse}, api.OK
	}
	return api.Value{Tag: api.TVoid}, api.OK
}

// pairs answers the value of d, which is a List or Dotted.
func (m maker) pairs(d api.Datum) (api.Value, api.Errno) {
	slots, e := m.values(d.List)
	if e != api.OK {
		return api.Value{}, e
	}
	rest := api.Value{Tag: api.TNil}
	if d.Kind == api.Dotted {
		last := len(slots) - 1
		slots, rest = slots[:last], slots[last]
	}
	for i := len(slots) - 1; i >= 0; i-- {
		rest, e = m.Make(api.Pair, slots[i], rest)
		if e != api.OK {
			return api.Value{}, e
		}
	}
	return rest, api.OK
}

// vector answers the value of a Vector of list.
func (m maker) vector(list []api.Datum) (api.Value, api.Errno) {
	slots, e := m.values(list)
	if e != api.OK {
		return api.Value{}, e
	}
	return m.Make(api.Vec, slots...)
}

// values answers the value of each of list.
func (m maker) values(list []api.Datum) ([]api.Value, api.Errno) {
	var values []api.Value
	for _, d := range list {
		v, e := m.value(d)
		if e != api.OK {
			return nil, e
		}
		values = append(values, v)
	}
	return values, api.OK
}

// integer answers the value of x.
func (m maker) integer(x api.Int) (api.Value, api.Errno) {
	if n, ok := small(x); ok {
		return fix(n), api.OK
	}
	slots := []api.Value{fix(sign(x.Neg))}
	for _, limb := range x.Limbs {
		slots = append(slots, fix(int(limb)))
	}
	return m.Make(api.Big, slots...)
}

// characters answers the values of the characters of s, which is UTF-8.
func characters(s string) []api.Value {
	list, _, _ := utf.Decode([]byte(s))
	var values []api.Value
	for _, c := range list {
		values = append(values, api.Value{Tag: api.TChar, N: c})
	}
	return values
}

// fix answers the value of a number that needs no object.
func fix(n int) api.Value { return api.Value{Tag: api.TFix, N: n} }

// sign answers what a Big has ahead of its limbs.
func sign(neg bool) int {
	if neg {
		return 1
	}
	return 0
}
