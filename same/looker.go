package same

import (
	"math"

	"marginalia/api"
	"marginalia/store"
)

// underWay stands for what a pair takes while its slots are being looked at: more than there is, since the pair itself took 1.
const underWay = math.MaxInt

// pair is two values that are held against one another.
type pair struct{ a, b api.Value }

// visit is a pair of objects whose slots are being looked at.
type visit struct {
	pair
	slots int // how many each of both has
	next  int // the first one that was not looked at yet
	fuel  int // how much there was ahead of the pair
}

// looker looks at pairs, and into them. It does not call itself, so that no depth is too great.
//
// What a pair takes is the same each time, and a pair within itself has no end. So the looker goes into each one only once: values that share much, or go round, are soon done with, however much fuel there is.
type looker struct {
	store *store.Store
	fuel  int
	open  []visit      // each within the one ahead of it
	took  map[pair]int // what each pair took whose slots were all the same, or underWay
}

// whole tells if p is the same, all that is in it included.
func (l *looker) whole(p pair) (bool, api.Errno) {
	same, e := l.look(p)
	for same && len(l.open) > 0 {
		same, e = l.onward()
	}
	return same, e
}

// look tells if p is the same as far as it can be seen at once; where its slots are to be looked at, it is open from then on.
func (l *looker) look(p pair) (bool, api.Errno) {
	if l.fuel <= 0 {
		return false, api.ErrFuel
	}
	if Eqv(l.store, p.a, p.b) {
		l.fuel--
		return true, api.OK
	}
	if !l.comparable(p) {
		l.fuel--
		return false, api.OK
	}
	took, met := l.took[p]
	switch {
	case !met:
		l.enter(p)
	case took > l.fuel:
		return false, api.ErrFuel
	default:
		l.fuel -= took
	}
	return true, api.OK
}

// onward looks at the slots of the innermost open pair that were not looked at yet, up to one that is open then; behind the last one the pair is open no more.
func (l *looker) onward() (bool, api.Errno) {
	depth := len(l.open)
	v := &l.open[depth-1]
	for range v.slots - v.next {
		p := slotsAt(l.store, v.a, v.b, v.next)
		v.next++
		same, e := l.look(p)
		if !same || len(l.open) > depth {
			return same, e
		}
	}
	l.took[v.pair] = v.fuel - l.fuel
	l.open = l.open[:depth-1]
	return true, api.OK
}

// enter opens p.
func (l *looker) enter(p pair) {
	l.open = append(l.open, visit{pair: p, slots: l.store.Len(p.a), fuel: l.fuel})
	l.took[p] = underWay
	l.fuel--
}

// comparable tells if both of p are objects of one kind whose slots count, and have as many.
func (l *looker) comparable(p pair) bool {
	kind := l.store.Kind(p.a)
	switch kind {
	case api.Pair, api.Vec, api.Box, api.Str:
		return l.store.Kind(p.b) == kind && l.store.Len(p.a) == l.store.Len(p.b)
	}
	return false
}

// slotsAt answers what slot i of a and of b has, which both have.
func slotsAt(s *store.Store, a, b api.Value, i int) pair {
	x, _ := s.Get(a, i)
	y, _ := s.Get(b, i)
	return pair{x, y}
}
