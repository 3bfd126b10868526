package store

import (
	"marginalia/api"
	"marginalia/utf"
)

// prims is how many numbers primitives may have.
const prims = 256

// Sound tells if v is a value that may be in this store.
func (s *Store) Sound(v api.Value) bool {
	if s == nil {
		return false
	}
	switch v.Tag {
	case api.TNil, api.TTrue, api.TFalse, api.TVoid, api.TUnset:
		return v.N == 0
	case api.TFix:
		return true
	case api.TChar:
		return utf.Scalar(v.N)
	case api.TSym:
		return below(v.N, len(s.names))
	case api.TObj:
		return below(v.N, len(s.objects))
	case api.TPrim:
		return below(v.N, prims)
	}
	return false
}

// below tells if n is a number from 0 on, below many.
func below(n, many int) bool { return n >= 0 && n < many }

// all tells if all of list are sound.
func (s *Store) all(list []api.Value) bool {
	for _, v := range list {
		if !s.Sound(v) {
			return false
		}
	}
	return true
}

// may tells if there are objects of that kind that have that many slots, and no piece of syntax.
func may(kind, slots int) bool {
	switch kind {
	case api.Pair:
		return slots == 2
	case api.Box:
		return slots == 1
	}
	return kind >= api.Pair && kind <= api.Multi
}
