// Package ident finds identifiers by what they are Bound as: their name and their marks. It is no layer, but a help to those from pat on.
package ident

import (
	"slices"
	"strings"

	"marginalia/api"
)

// Finder finds those of a list. They stand in an order, so that one of many is found without being held against each.
type Finder struct {
	ids    []api.Stx
	places []int // of all of them, as their order has it
}

// Of answers a Finder of ids, which are identifiers. It holds them as they are.
func Of(ids ...api.Stx) Finder {
	f := Finder{ids: ids}
	for place := range ids {
		f.places = append(f.places, place)
	}
	slices.SortStableFunc(f.places, func(a, b int) int { return order(ids[a], ids[b]) })
	return f
}

// Find answers the place of the first one that is Bound as the identifier id; false, if none is.
func (f Finder) Find(id api.Stx) (place int, ok bool) {
	at, ok := slices.BinarySearchFunc(f.places, id, func(place int, id api.Stx) int { return order(f.ids[place], id) })
	if !ok {
		return 0, false
	}
	return f.places[at], true
}

// Twice tells if two of them are Bound as one another.
func (f Finder) Twice() bool {
	for i := 1; i < len(f.places); i++ {
		if order(f.ids[f.places[i-1]], f.ids[f.places[i]]) == 0 {
			return true
		}
	}
	return false
}

// order tells which of two identifiers goes ahead; neither does, if they are Bound as one another.
func order(a, b api.Stx) int {
	if names := strings.Compare(a.Text, b.Text); names != 0 {
		return names
	}
	return slices.Compare(a.Marks, b.Marks)
}
