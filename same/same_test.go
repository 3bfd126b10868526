package same_test

import (
	"math"
	"testing"

	"marginalia/api"
	"marginalia/same"
	"marginalia/store"
)

// The values that tests hand in.

func value(tag, n int) api.Value { return api.Value{Tag: tag, N: n} }
func fix(n int) api.Value        { return value(api.TFix, n) }
func obj(n int) api.Value        { return value(api.TObj, n) }

var null = value(api.TNil, 0)

// looked are the kinds whose slots Equal looks at, and blind those that are only the same as themselves.
var (
	looked = []int{api.Pair, api.Vec, api.Box, api.Str}
	blind  = []int{api.Closure, api.Kont, api.Frame, api.Multi}
)

// plainly are values of each tag that is no object, sound ones and others: no two are the same.
func plainly() []api.Value {
	var list []api.Value
	for _, tag := range []int{api.TNil, api.TTrue, api.TFalse, api.TVoid, api.TFix, api.TChar, api.TSym, api.TPrim, api.TUnset, -1, 10, math.MinInt, math.MaxInt} {
		for _, n := range []int{0, 1, -1, 255, 0xD800, math.MaxInt, math.MinInt} {
			list = append(list, value(tag, n))
		}
	}
	return list
}

// made is a new store with all the room that one may have.
func made(t *testing.T) *store.Store {
	t.Helper()
	s, e := store.New(api.MaxCells)
	if e != api.OK {
		t.Fatalf("New: %d", e)
	}
	return s
}

// put makes an object.
func put(t *testing.T, s *store.Store, kind int, slots ...api.Value) api.Value {
	t.Helper()
	v, e := s.Make(kind, slots...)
	if e != api.OK {
		t.Fatalf("Make of %d with %d slots: %d", kind, len(slots), e)
	}
	return v
}

// syntax makes an object with a piece of syntax.
func syntax(t *testing.T, s *store.Store, x api.Stx) api.Value {
	t.Helper()
	v, e := s.Wrap(x)
	if e != api.OK {
		t.Fatalf("Wrap: %d", e)
	}
	return v
}

// set puts x into slot i of v.
func set(t *testing.T, s *store.Store, v api.Value, i int, x api.Value) {
	t.Helper()
	if e := s.Set(v, i, x); e != api.OK {
		t.Fatalf("Set of slot %d of %v: %d", i, v, e)
	}
}

// list makes a list of values.
func list(t *testing.T, s *store.Store, values ...api.Value) api.Value {
	t.Helper()
	v := null
	for i := len(values) - 1; i >= 0; i-- {
		v = put(t, s, api.Pair, values[i], v)
	}
	return v
}

// ring makes n objects of that kind, of which each has the next one, and the last one the first one, in slot i; all else is 7.
func ring(t *testing.T, s *store.Store, n, kind, slots, i int) api.Value {
	t.Helper()
	var all []api.Value
	for range n {
		rest := make([]api.Value, slots)
		for j := range rest {
			rest[j] = fix(7)
		}
		all = append(all, put(t, s, kind, rest...))
	}
	for j, v := range all {
		set(t, s, v, i, all[(j+1)%n])
	}
	return all[0]
}

// eqv holds Eqv of a and b, and of b and a, against want.
func eqv(t *testing.T, s *store.Store, a, b api.Value, want bool) {
	t.Helper()
	if same.Eqv(s, a, b) != want || same.Eqv(s, b, a) != want {
		t.Errorf("Eqv of %v and %v: not %v", a, b, want)
	}
}

// equal holds Equal of a and b, and of b and a, against want, and how much fuel that takes: with less it is ErrFuel, whatever there is above it is left.
func equal(t *testing.T, s *store.Store, a, b api.Value, want bool, takes int) {
	t.Helper()
	for _, fuel := range []int{takes, takes + 1, takes + 1000, math.MaxInt - 1, math.MaxInt} {
		answers(t, s, a, b, fuel, want, fuel-takes, api.OK)
		answers(t, s, b, a, fuel, want, fuel-takes, api.OK)
	}
	for _, fuel := range []int{takes - 1, takes / 2, 1, 0, -1, math.MinInt} {
		if fuel < takes {
			answers(t, s, a, b, fuel, false, 0, api.ErrFuel)
			answers(t, s, b, a, fuel, false, 0, api.ErrFuel)
		}
	}
}

// endless tells if Equal of a and b is ErrFuel, whatever the fuel.
func endless(t *testing.T, s *store.Store, a, b api.Value) {
	t.Helper()
	for _, fuel := range []int{math.MinInt, -1, 0, 1, 2, 3, 10, 100, 1000, 100000, api.MaxFuel, math.MaxInt32, math.MaxInt - 1, math.MaxInt} {
		answers(t, s, a, b, fuel, false, 0, api.ErrFuel)
		answers(t, s, b, a, fuel, false, 0, api.ErrFuel)
	}
}

// answers holds what Equal answers against what it should.
func answers(t *testing.T, s *store.Store, a, b api.Value, fuel int, want bool, left int, e api.Errno) {
	t.Helper()
	if got, gotLeft, gotE := same.Equal(s, a, b, fuel); got != want || gotLeft != left || gotE != e {
		t.Errorf("Equal of %v and %v with %d: %v, %d, %d, not %v, %d, %d", a, b, fuel, got, gotLeft, gotE, want, left, e)
	}
}

// P7.1

func TestEqvOfWhatIsNoObject(t *testing.T) {
	s := made(t)
	if _, e := s.Symbol("a"); e != api.OK {
		t.Fatal(e)
	}
	for _, s := range []*store.Store{nil, {}, s} {
		for i, a := range plainly() {
			for j, b := range plainly() {
				eqv(t, s, a, b, i == j)
			}
		}
	}
}

func TestEqvOfObjects(t *testing.T) {
	s := made(t)
	inner := put(t, s, api.Box, fix(1))
	for _, kind := range append(append([]int{}, looked...), blind...) {
		slots := []api.Value{inner, fix(2)}
		if kind == api.Box {
			slots = slots[:1]
		}
		a, b := put(t, s, kind, slots...), put(t, s, kind, slots...)
		eqv(t, s, a, a, true)
		eqv(t, s, a, b, false)
		eqv(t, s, a, inner, false)
		eqv(t, s, a, null, false)
		eqv(t, s, a, fix(a.N), false)
	}
	x := api.Stx{Kind: api.Symbol, Text: "a"}
	a, b := syntax(t, s, x), syntax(t, s, x)
	eqv(t, s, a, a, true)
	eqv(t, s, a, b, false)
	eqv(t, s, put(t, s, api.Vec), put(t, s, api.Vec), false)
}

func TestEqvOfBigs(t *testing.T) {
	s := made(t)
	box := put(t, s, api.Box, fix(1))
	rows := [][]api.Value{
		{}, {fix(0)}, {fix(1)}, {fix(0), fix(1)}, {fix(1), fix(1)}, {fix(0), fix(2)}, {fix(0), fix(1), fix(1)},
		{fix(0), fix(1), fix(2)}, {fix(0), fix(2), fix(1)}, {fix(0), fix(1), fix(2), fix(0)},
		{fix(0), null}, {null, fix(0)}, {fix(0), value(api.TChar, 1)}, {box}, {box, box},
	}
	for i, x := range rows {
		for j, y := range rows {
			eqv(t, s, put(t, s, api.Big, x...), put(t, s, api.Big, y...), i == j)
		}
		for _, kind := range []int{api.Vec, api.Str, api.Closure, api.Kont, api.Frame, api.Multi} {
			eqv(t, s, put(t, s, api.Big, x...), put(t, s, kind, x...), false)
		}
	}
}

// The slots of two Bigs have to be the same: it is not asked what is in them.
func TestEqvLooksAtSlotsOnly(t *testing.T) {
	s := made(t)
	one, other := put(t, s, api.Big, fix(0), fix(1)), put(t, s, api.Big, fix(0), fix(1))
	eqv(t, s, one, other, true)
	eqv(t, s, put(t, s, api.Big, fix(0), one), put(t, s, api.Big, fix(0), one), true)
	eqv(t, s, put(t, s, api.Big, fix(0), one), put(t, s, api.Big, fix(0), other), false)
	a, b := ring(t, s, 1, api.Big, 2, 1), ring(t, s, 1, api.Big, 2, 1)
	eqv(t, s, a, a, true)
	eqv(t, s, a, b, false)
	set(t, s, b, 1, a)
	eqv(t, s, a, b, true)
}

// Of a nil store, and of one that does not have them, objects are no objects, but still the same as themselves.
func TestEqvWithoutObjects(t *testing.T) {
	full := made(t)
	put(t, full, api.Big, fix(0), fix(1))
	put(t, full, api.Big, fix(0), fix(1))
	eqv(t, full, obj(0), obj(1), true)
	for _, s := range []*store.Store{nil, {}, made(t)} {
		eqv(t, s, obj(0), obj(0), true)
		eqv(t, s, obj(0), obj(1), false)
		eqv(t, s, obj(-1), obj(-1), true)
		eqv(t, s, obj(math.MaxInt), obj(math.MinInt), false)
	}
	for _, n := range []int{2, -1, math.MaxInt, math.MinInt} {
		eqv(t, full, obj(n), obj(n), true)
		eqv(t, full, obj(n), obj(0), false)
	}
}

// P7.2

func TestExamples(t *testing.T) {
	s := made(t)
	a, b := list(t, s, fix(1), fix(2), fix(3)), list(t, s, fix(1), fix(2), fix(3))
	equal(t, s, a, b, true, 7)
	endless(t, s, ring(t, s, 1, api.Box, 1, 0), ring(t, s, 1, api.Box, 1, 0))
}

func TestEqualOfWhatIsNoObject(t *testing.T) {
	s := made(t)
	for _, s := range []*store.Store{nil, {}, s} {
		for i, a := range plainly() {
			for j, b := range plainly() {
				equal(t, s, a, b, i == j, 1)
			}
		}
		equal(t, s, obj(0), obj(0), true, 1)
		equal(t, s, obj(0), obj(1), false, 1)
		equal(t, s, obj(-1), obj(math.MinInt), false, 1)
	}
}

// What is the same needs no look at its slots, even if it goes round.
func TestEqualOfOneObject(t *testing.T) {
	s := made(t)
	for _, kind := range looked {
		slots := []api.Value{fix(1), fix(2)}
		if kind == api.Box {
			slots = slots[:1]
		}
		v := put(t, s, kind, slots...)
		equal(t, s, v, v, true, 1)
		set(t, s, v, 0, v)
		equal(t, s, v, v, true, 1)
		equal(t, s, put(t, s, api.Pair, v, v), put(t, s, api.Pair, v, v), true, 3)
	}
}

func TestEqualByKind(t *testing.T) {
	s := made(t)
	equal(t, s, put(t, s, api.Pair, fix(1), fix(2)), put(t, s, api.Pair, fix(1), fix(2)), true, 3)
	equal(t, s, put(t, s, api.Box, fix(1)), put(t, s, api.Box, fix(1)), true, 2)
	equal(t, s, put(t, s, api.Vec), put(t, s, api.Vec), true, 1)
	equal(t, s, put(t, s, api.Vec, fix(1), fix(2), null), put(t, s, api.Vec, fix(1), fix(2), null), true, 4)
	equal(t, s, put(t, s, api.Str), put(t, s, api.Str), true, 1)
	a, b := value(api.TChar, 'a'), value(api.TChar, 'b')
	equal(t, s, put(t, s, api.Str, a, b), put(t, s, api.Str, a, b), true, 3)
	equal(t, s, put(t, s, api.Str, a, b), put(t, s, api.Str, b, a), false, 2)
	for _, kind := range blind {
		equal(t, s, put(t, s, kind), put(t, s, kind), false, 1)
		equal(t, s, put(t, s, kind, fix(1)), put(t, s, kind, fix(1)), false, 1)
	}
	x := api.Stx{Kind: api.Symbol, Text: "a"}
	equal(t, s, syntax(t, s, x), syntax(t, s, x), false, 1)
	equal(t, s, put(t, s, api.Big, fix(0), fix(5)), put(t, s, api.Big, fix(0), fix(5)), true, 1)
	equal(t, s, put(t, s, api.Big, fix(0), fix(5)), put(t, s, api.Big, fix(1), fix(5)), false, 1)
}

// Bigs are Eqv or not: what is in their slots is not looked at, as it is in those of a Vec.
func TestEqualDoesNotLookIntoBigs(t *testing.T) {
	s := made(t)
	a, b := put(t, s, api.Box, fix(1)), put(t, s, api.Box, fix(1))
	equal(t, s, put(t, s, api.Big, a), put(t, s, api.Big, b), false, 1)
	equal(t, s, put(t, s, api.Vec, a), put(t, s, api.Vec, b), true, 3)
	equal(t, s, ring(t, s, 1, api.Big, 1, 0), ring(t, s, 1, api.Big, 1, 0), false, 1)
	big := func() api.Value { return put(t, s, api.Big, fix(1), fix(2), fix(3)) }
	equal(t, s, list(t, s, big(), big()), list(t, s, big(), big()), true, 5)
}

// Objects of two kinds, or of two lengths, are not looked into.
func TestEqualOfOtherShapes(t *testing.T) {
	s := made(t)
	kinds := append(append([]int{api.Big}, looked...), blind...)
	for i, x := range kinds {
		for j, y := range kinds {
			if i == j {
				continue
			}
			n, m := 2, 2
			if x == api.Box || y == api.Box {
				n, m = 1, 1
			}
			if x == api.Pair {
				n = 2
			}
			if y == api.Pair {
				m = 2
			}
			slots := []api.Value{fix(0), fix(1)}
			equal(t, s, put(t, s, x, slots[:n]...), put(t, s, y, slots[:m]...), false, 1)
		}
	}
	for _, kind := range []int{api.Vec, api.Str, api.Big} {
		equal(t, s, put(t, s, kind), put(t, s, kind, fix(0)), false, 1)
		equal(t, s, put(t, s, kind, fix(0), fix(1)), put(t, s, kind, fix(0), fix(1), fix(2)), false, 1)
	}
	equal(t, s, put(t, s, api.Vec, fix(0)), fix(0), false, 1)
	equal(t, s, put(t, s, api.Vec), null, false, 1)
	equal(t, s, put(t, s, api.Vec), obj(1<<20), false, 1)
}

// The first slots are looked at first, all of what is in them ahead of the next ones, and none behind the first two that are not the same.
func TestOrder(t *testing.T) {
	s := made(t)
	one, two := ring(t, s, 1, api.Box, 1, 0), ring(t, s, 1, api.Box, 1, 0)
	vec := func(slots ...api.Value) api.Value { return put(t, s, api.Vec, slots...) }
	equal(t, s, vec(fix(1), one), vec(fix(2), two), false, 2)
	equal(t, s, vec(fix(1), fix(1), one), vec(fix(1), fix(2), two), false, 3)
	endless(t, s, vec(one, fix(1)), vec(two, fix(2)))
	endless(t, s, vec(fix(1), one, fix(1)), vec(fix(1), two, fix(2)))
	deep := func(n int) api.Value { return vec(vec(vec(fix(1), fix(n)), fix(4)), one) }
	equal(t, s, deep(2), vec(vec(vec(fix(1), fix(3)), fix(5)), two), false, 5)
	equal(t, s, deep(2), vec(vec(vec(fix(1), fix(2)), fix(5)), two), false, 6)
	endless(t, s, deep(2), vec(vec(vec(fix(1), fix(2)), fix(4)), two))
	equal(t, s, list(t, s, fix(1), fix(2), fix(3)), list(t, s, fix(1), fix(2)), false, 5)
	equal(t, s, list(t, s, fix(1), fix(2)), list(t, s, fix(1), fix(3), one), false, 4)
}

// What goes round on both sides has no end; what is not the same is found all the same, if it stands ahead of that.
func TestRings(t *testing.T) {
	s := made(t)
	shapes := []struct{ kind, slots, at, ahead int }{{api.Box, 1, 0, 0}, {api.Pair, 2, 0, 0}, {api.Pair, 2, 1, 1}, {api.Vec, 3, 1, 1}, {api.Str, 2, 0, 0}}
	for _, x := range shapes {
		for n := 1; n < 6; n++ {
			for m := 1; m < 6; m++ {
				endless(t, s, ring(t, s, n, x.kind, x.slots, x.at), ring(t, s, m, x.kind, x.slots, x.at))
			}
			straight := ring(t, s, n, x.kind, x.slots, x.at)
			last := straight
			for range n - 1 {
				last, _ = s.Get(last, x.at)
			}
			set(t, s, last, x.at, null)
			// Each round takes the pair and what stands ahead of the next one; at last there is null.
			equal(t, s, straight, ring(t, s, 3, x.kind, x.slots, x.at), false, n*(1+x.ahead)+1)
		}
	}
	endless(t, s, ring(t, s, 211, api.Pair, 2, 0), ring(t, s, 199, api.Pair, 2, 0))
	a, b := put(t, s, api.Box, null), put(t, s, api.Box, null)
	set(t, s, a, 0, b)
	set(t, s, b, 0, a)
	endless(t, s, a, b)
}

// Two values of which each is in the other one.
func TestCrossed(t *testing.T) {
	s := made(t)
	a, b := put(t, s, api.Pair, null, fix(1)), put(t, s, api.Pair, null, fix(2))
	set(t, s, a, 0, b)
	set(t, s, b, 0, a)
	endless(t, s, a, b)
	set(t, s, a, 0, fix(1))
	set(t, s, a, 1, b)
	set(t, s, b, 0, fix(1))
	set(t, s, b, 1, a)
	endless(t, s, a, b)
	set(t, s, b, 0, fix(2))
	equal(t, s, a, b, false, 2)
}

// A thing that stands at several places takes its fuel at each.
func TestShared(t *testing.T) {
	s := made(t)
	a, b := list(t, s, fix(1), fix(2)), list(t, s, fix(1), fix(2))
	equal(t, s, put(t, s, api.Vec, a, a, a), put(t, s, api.Vec, b, b, b), true, 16)
	equal(t, s, put(t, s, api.Vec, a, b, a), put(t, s, api.Vec, b, a, a), true, 12)
	for depth := 1; depth < 64; depth++ {
		a, b = put(t, s, api.Pair, a, a), put(t, s, api.Pair, b, b)
		if depth < 60 {
			equal(t, s, a, b, true, 6<<depth-1)
		}
	}
	endless(t, s, a, b)
	equal(t, s, put(t, s, api.Pair, fix(1), a), put(t, s, api.Pair, fix(2), b), false, 2)
}

// As deep, as long and as wide as the store has room for.
func TestGreat(t *testing.T) {
	const n = api.MaxCells/6 - 10
	for _, at := range []int{0, 1} {
		s, ends := made(t), [2]api.Value{}
		for i := range ends {
			v := null
			for range n {
				slots := [2]api.Value{fix(7), fix(7)}
				slots[at] = v
				v = put(t, s, api.Pair, slots[:]...)
			}
			ends[i] = v
		}
		equal(t, s, ends[0], ends[1], true, 2*n+1)
		v := ends[1]
		for range n - 1 {
			v, _ = s.Get(v, at)
		}
		set(t, s, v, 1-at, fix(8))
		equal(t, s, ends[0], ends[1], false, [2]int{n + 2, 2 * n}[at])
	}
	s := made(t)
	wide := make([]api.Value, api.MaxCells/2-1)
	a, b := put(t, s, api.Vec, wide...), put(t, s, api.Vec, wide...)
	equal(t, s, a, b, true, len(wide)+1)
	set(t, s, b, len(wide)-1, fix(1))
	equal(t, s, a, b, false, len(wide)+1)
}
