package same_test

import (
	"fmt"
	"math"
	"strings"
	"testing"

	"marginalia/api"
	"marginalia/same"
	"marginalia/store"
)

// enough is more fuel than anything that has an end takes in the stores that twins makes here.
const enough = 1 << 14

// steps does what the chapter says word by word; false beside, if it runs out of fuel.
func steps(s *store.Store, a, b api.Value, fuel *int) (yes, ends bool) {
	if *fuel <= 0 {
		return false, false
	}
	*fuel--
	if eqvSteps(s, a, b) {
		return true, true
	}
	switch kind := s.Kind(a); {
	case kind != s.Kind(b) || s.Len(a) != s.Len(b):
		return false, true
	case kind != api.Pair && kind != api.Vec && kind != api.Box && kind != api.Str:
		return false, true
	}
	for i := range s.Len(a) {
		x, _ := s.Get(a, i)
		y, _ := s.Get(b, i)
		if yes, ends := steps(s, x, y, fuel); !yes || !ends {
			return false, ends
		}
	}
	return true, true
}

func eqvSteps(s *store.Store, a, b api.Value) bool {
	if a.Tag != api.TObj || b.Tag != api.TObj || a.N == b.N {
		return a == b
	}
	return s.Kind(a) == api.Big && s.Kind(b) == api.Big && slotsOf(s, a) == slotsOf(s, b)
}

// slotsOf are v's slots as text.
func slotsOf(s *store.Store, v api.Value) string {
	var b strings.Builder
	for i := range s.Len(v) {
		x, e := s.Get(v, i)
		fmt.Fprint(&b, x, e)
	}
	return b.String()
}

// told is all that a store tells of its objects.
func told(s *store.Store) string {
	var b strings.Builder
	fmt.Fprint(&b, s.Used())
	for n := 0; s.Sound(obj(n)); n++ {
		fmt.Fprint(&b, s.Kind(obj(n)), slotsOf(s, obj(n)))
	}
	return b.String()
}

// chance answers numbers that are always the same ones.
type chance uint64

// below answers the next one, from 0 on, below n.
func (c *chance) below(n int) int {
	*c = *c*6364136223846793005 + 1442695040888963407
	return int(uint64(*c>>33) % uint64(n))
}

// shape answers some kind, and how many slots an object of it has: most often two, so that many are alike, and never more, so that enough is enough.
func (c *chance) shape() (kind, slots int) {
	switch c.below(16) {
	case 0:
		return api.Box, 1
	case 1:
		return api.Vec, c.below(3)
	case 2:
		return api.Str, c.below(3)
	case 3:
		return api.Big, c.below(3)
	case 4:
		return blind[c.below(len(blind))], c.below(3)
	case 5, 6, 7:
		return api.Vec, 2
	}
	return api.Pair, 2
}

// twins makes a store with n objects that hold one another, and behind them n more that are like them, each holding those among them or, at times, the others; at times a slot is changed.
func (c *chance) twins(t *testing.T, n int) *store.Store {
	s := made(t)
	slots := make([]int, n)
	for i := range slots {
		var kind int
		kind, slots[i] = c.shape()
		list := make([]api.Value, slots[i])
		put(t, s, kind, list...)
	}
	for i := range n {
		put(t, s, s.Kind(obj(i)), make([]api.Value, slots[i])...)
	}
	round := c.below(3) // how often what holds an object stands ahead of it
	for i := range n {
		for j := range slots[i] {
			x, y := c.slot(i, n, round)
			set(t, s, obj(i), j, x)
			set(t, s, obj(n+i), j, y)
		}
	}
	return s
}

// slot answers what a slot of object i has, and what that of its twin has.
func (c *chance) slot(i, n, round int) (x, y api.Value) {
	from := 0
	if i > 0 && c.below(8) >= round {
		from = i + 1
	}
	if from == n || c.below(4) == 0 {
		x = fix(c.below(2))
		if c.below(40) == 0 {
			return x, null
		}
		return x, x
	}
	to := from + c.below(n-from)
	if c.below(8) == 0 {
		return obj(to), obj(to)
	}
	return obj(to), obj(n + to)
}

// Whatever holds whatever, Equal answers what doing it step by step does, at each fuel.
func TestModel(t *testing.T) {
	var yes, no, never int
	for seed := range 2000 {
		c := chance(seed)
		n := 2 + c.below(5)
		s := c.twins(t, n)
		before := told(s)
		for range 20 {
			i := c.below(n)
			a, b := obj(i), obj(n+i)
			if c.below(4) == 0 {
				a, b = obj(c.below(2*n)), obj(c.below(2*n))
			}
			eqv(t, s, a, b, eqvSteps(s, a, b))
			left := enough
			want, ends := steps(s, a, b, &left)
			switch {
			case !ends:
				never++
				endless(t, s, a, b)
				continue
			case want:
				yes++
			default:
				no++
			}
			equal(t, s, a, b, want, enough-left)
			for fuel := range min(enough-left, 40) {
				answers(t, s, a, b, fuel, false, 0, api.ErrFuel)
			}
		}
		if after := told(s); after != before {
			t.Fatalf("seed %d: %s became %s", seed, before, after)
		}
	}
	if min(yes, no, never) < 1000 {
		t.Errorf("%d are the same, %d are not, %d have no end: that says little", yes, no, never)
	}
}

// All stores of three pairs whose slots have 0, 1 or one of the three.
func TestSmall(t *testing.T) {
	choices := []api.Value{fix(0), fix(1), obj(0), obj(1), obj(2)}
	s := made(t)
	for range 3 {
		put(t, s, api.Pair, null, null)
	}
	for n := range 5 * 5 * 5 * 5 * 5 * 5 {
		for i := range 6 {
			set(t, s, obj(i/2), i%2, choices[n%5])
			n /= 5
		}
		for i := range 9 {
			small(t, s, obj(i/3), obj(i%3))
		}
	}
}

// small holds Equal of a and b against doing it step by step, with little fuel, and with all that there can be.
func small(t *testing.T, s *store.Store, a, b api.Value) {
	t.Helper()
	for _, fuel := range []int{0, 1, 2, 3, 4, 5, 7, 12, 100} {
		left := fuel
		want, ends := steps(s, a, b, &left)
		if ends {
			answers(t, s, a, b, fuel, want, left, api.OK)
		} else {
			answers(t, s, a, b, fuel, false, 0, api.ErrFuel)
		}
		if fuel < 100 {
			continue
		}
		// Of three pairs nothing that has an end takes 100.
		if ends {
			answers(t, s, a, b, math.MaxInt, want, math.MaxInt-(fuel-left), api.OK)
		} else {
			answers(t, s, a, b, math.MaxInt, false, 0, api.ErrFuel)
		}
	}
}

// The same calls, done again, have the same answers: nothing is kept.
func TestAgain(t *testing.T) {
	s := made(t)
	a, b := put(t, s, api.Box, fix(1)), put(t, s, api.Box, fix(1))
	for range 3 {
		equal(t, s, a, b, true, 2)
		set(t, s, b, 0, fix(2))
		equal(t, s, a, b, false, 2)
		set(t, s, b, 0, b)
		equal(t, s, a, b, false, 2)
		set(t, s, a, 0, a)
		endless(t, s, a, b)
		set(t, s, a, 0, fix(1))
		set(t, s, b, 0, fix(1))
	}
	if yes, left, e := same.Equal(s.Copy(), a, b, 2); !yes || left != 0 || e != api.OK {
		t.Errorf("of a copy: %v, %d, %d", yes, left, e)
	}
}
