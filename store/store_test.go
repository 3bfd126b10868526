package store_test

import (
	"fmt"
	"math"
	"slices"
	"strings"
	"testing"

	"marginalia/api"
	"marginalia/num"
	"marginalia/store"
)

// The values that tests hand in.

func value(tag, n int) api.Value { return api.Value{Tag: tag, N: n} }
func fix(n int) api.Value        { return value(api.TFix, n) }
func obj(n int) api.Value        { return value(api.TObj, n) }
func symbol(n int) api.Value     { return value(api.TSym, n) }

var null = value(api.TNil, 0)

// edges are numbers at which something may end.
var edges = []int{math.MinInt, math.MinInt32, -256, -2, -1, 0, 1, 2, 3, 9, 10, 11, 64, 255, 256, 257, 0xD7FF, 0xD800, 0xDFFF, 0xE000, 0x10FFFF, 0x110000, math.MaxInt32, math.MaxInt}

// many are that many slots, all sound.
func many(n int) []api.Value { return slices.Repeat([]api.Value{null}, n) }

// made is a new store.
func made(t *testing.T, cells int) *store.Store {
	t.Helper()
	s, e := store.New(cells)
	if s == nil || e != api.OK {
		t.Fatalf("New(%d): %v, %d", cells, s, e)
	}
	return s
}

// put makes an object, for which there has to be room, and holds what the store tells of it against what it should.
func put(t *testing.T, s *store.Store, kind int, slots ...api.Value) api.Value {
	t.Helper()
	used := s.Used()
	v, e := s.Make(kind, slots...)
	if e != api.OK || v.Tag != api.TObj || !s.Sound(v) || s.Kind(v) != kind || s.Len(v) != len(slots) || s.Used() != used+1+len(slots) {
		t.Fatalf("Make of %d with %d slots: %v, %d; kind %d, %d slots, %d used of %d ahead", kind, len(slots), v, e, s.Kind(v), s.Len(v), s.Used(), used)
	}
	holds(t, s, v, slots...)
	return v
}

// named is the symbol of name.
func named(t *testing.T, s *store.Store, name string) api.Value {
	t.Helper()
	v, e := s.Symbol(name)
	if e != api.OK || v.Tag != api.TSym || !s.Sound(v) {
		t.Fatalf("Symbol(%q): %v, %d", name, v, e)
	}
	return v
}

// holds tells if v's slots are those.
func holds(t *testing.T, s *store.Store, v api.Value, slots ...api.Value) {
	t.Helper()
	if s.Len(v) != len(slots) {
		t.Fatalf("%v has %d slots, not %d", v, s.Len(v), len(slots))
	}
	for i, want := range slots {
		if got, e := s.Get(v, i); got != want || e != api.OK {
			t.Fatalf("slot %d of %v: %v, %d, not %v", i, v, got, e, want)
		}
	}
}

// refuses tells if Make answers that error and nothing, and leaves the store as it was.
func refuses(t *testing.T, s *store.Store, want api.Errno, kind int, slots ...api.Value) {
	t.Helper()
	before := told(s)
	if v, e := s.Make(kind, slots...); v != (api.Value{}) || e != want {
		t.Errorf("Make of %d with %d slots: %v, %d, not error %d", kind, len(slots), v, e, want)
	}
	if after := told(s); after != before {
		t.Errorf("Make of %d with %d slots, refused, left %.200s of %.200s", kind, len(slots), after, before)
	}
}

// told is all that a store tells of itself: of its objects and symbols, as long as they are sound, and of its room.
func told(s *store.Store) string {
	var b strings.Builder
	fmt.Fprint(&b, s.Used())
	for n := 0; s.Sound(obj(n)); n++ {
		fmt.Fprintf(&b, "; %d:", s.Kind(obj(n)))
		for i := range s.Len(obj(n)) {
			v, e := s.Get(obj(n), i)
			fmt.Fprint(&b, v, e)
		}
		if x, e := s.Unwrap(obj(n)); e == api.OK {
			fmt.Fprintf(&b, "%+v", x)
		}
	}
	for n := 0; s.Sound(symbol(n)); n++ {
		name, e := s.Name(symbol(n))
		fmt.Fprintf(&b, "; %q%d", name, e)
	}
	return b.String()
}

// P6.1

func TestNew(t *testing.T) {
	for _, cells := range []int{math.MinInt, -2, -1, api.MaxCells + 1, 1 << 32, math.MaxInt} {
		if s, e := store.New(cells); s != nil || e != api.ErrArg {
			t.Errorf("New(%d): %v, %d", cells, s, e)
		}
	}
	for _, cells := range []int{0, 1, 5, api.MaxCells - 1, api.MaxCells} {
		s := made(t, cells)
		if s.Used() != 0 || s.Sound(obj(0)) || s.Sound(symbol(0)) {
			t.Errorf("New(%d): %s", cells, told(s))
		}
	}
}

func TestExample(t *testing.T) {
	s := made(t, 5)
	pair := put(t, s, api.Pair, fix(1), fix(2))
	put(t, s, api.Box, pair)
	refuses(t, s, api.ErrFull, api.Vec)
	if v, e := s.Collect(pair); len(v) != 1 || v[0] != pair || e != api.OK || s.Used() != 3 {
		t.Errorf("Collect: %v, %d, %d used", v, e, s.Used())
	}
}

// sound holds Sound of tag and each of the edges against from and to, the least number and the greatest one that are.
func sound(t *testing.T, s *store.Store, tag, from, to int) {
	t.Helper()
	for _, n := range slices.Concat(edges, []int{from, to, max(from, from-1), min(to, to+1)}) {
		want := n >= from && n <= to && (tag != api.TChar || n < 0xD800 || n > 0xDFFF)
		if s.Sound(value(tag, n)) != want {
			t.Errorf("Sound of tag %d, %d: %v", tag, n, !want)
		}
	}
}

func TestSound(t *testing.T) {
	s := made(t, 100)
	for _, tag := range []int{api.TNil, api.TTrue, api.TFalse, api.TVoid, api.TUnset} {
		sound(t, s, tag, 0, 0)
	}
	sound(t, s, api.TFix, math.MinInt, math.MaxInt)
	sound(t, s, api.TChar, 0, 0x10FFFF)
	sound(t, s, api.TPrim, 0, 255)
	for _, tag := range []int{math.MinInt, -1, 10, 11, math.MaxInt} {
		sound(t, s, tag, 1, 0)
	}
	for n := range 12 {
		sound(t, s, api.TObj, 0, n-1)
		sound(t, s, api.TSym, 0, n-1)
		put(t, s, api.Vec)
		sound(t, s, api.TSym, 0, n-1)
		named(t, s, fmt.Sprint("s", n))
		sound(t, s, api.TObj, 0, n)
	}
}

func TestMakeKinds(t *testing.T) {
	s := made(t, api.MaxCells)
	for _, kind := range edges {
		for n := range 6 {
			ok := kind >= api.Pair && kind <= api.Multi && (kind != api.Pair || n == 2) && (kind != api.Box || n == 1)
			if ok {
				put(t, s, kind, many(n)...)
			} else {
				refuses(t, s, api.ErrArg, kind, many(n)...)
			}
		}
	}
	for kind := api.Pair; kind <= api.Syn+1; kind++ {
		switch kind {
		case api.Pair, api.Box, api.Syn, api.Syn + 1:
			refuses(t, s, api.ErrArg, kind)
			refuses(t, s, api.ErrArg, kind, many(5)...)
		default:
			put(t, s, kind)
			put(t, s, kind, many(1000)...)
		}
	}
}

// Objects have the numbers 0, 1, ..; what they hold are values of any tag.
func TestMakeSlots(t *testing.T) {
	s := made(t, 100)
	all := []api.Value{null, value(api.TTrue, 0), value(api.TFalse, 0), value(api.TVoid, 0), fix(math.MinInt), fix(math.MaxInt), value(api.TChar, 0x10FFFF), named(t, s, "a"), value(api.TPrim, 255), value(api.TUnset, 0)}
	for n := range 9 {
		v := put(t, s, n%9+1, all[:[]int{2, 9, 1, 9, 9, 9, 9, 9, 9}[n]]...)
		if v != obj(n) {
			t.Errorf("object %d is %v", n, v)
		}
		all[9-n] = v
	}
}

func TestMakeErrors(t *testing.T) {
	s := made(t, 6)
	put(t, s, api.Box, null)
	named(t, s, "a")
	for _, bad := range []api.Value{obj(1), obj(2), obj(-1), symbol(1), symbol(-1), value(api.TNil, 1), value(api.TChar, 0xD800), value(api.TPrim, 256), value(10, 0), value(-1, 0)} {
		refuses(t, s, api.ErrForm, api.Box, bad)
		refuses(t, s, api.ErrForm, api.Pair, bad, null)
		refuses(t, s, api.ErrForm, api.Pair, null, bad)
		for at := range 3 {
			slots := many(3)
			slots[at] = bad
			refuses(t, s, api.ErrForm, api.Vec, slots...)
		}
		refuses(t, s, api.ErrArg, api.Box, bad, null)                  // ahead of what is not sound
		refuses(t, s, api.ErrArg, api.Syn, bad)                        //
		refuses(t, s, api.ErrForm, api.Vec, append(many(99), bad)...)  // ahead of what has no room
		refuses(t, s, api.ErrForm, api.Frame, append(many(4), bad)...) //
	}
	refuses(t, s, api.ErrArg, api.Pair, many(99)...)
	refuses(t, s, api.ErrFull, api.Vec, many(4)...)
	put(t, s, api.Vec, many(3)...)
	refuses(t, s, api.ErrFull, api.Vec)
	refuses(t, s, api.ErrArg, api.Box)
}

func TestRoom(t *testing.T) {
	for cells := range 40 {
		for n := range 5 {
			s := made(t, cells)
			for range cells / (1 + n) {
				put(t, s, api.Str, many(n)...)
			}
			for more := cells % (1 + n); more < 8; more++ {
				refuses(t, s, api.ErrFull, api.Big, many(more)...)
			}
			if left := cells % (1 + n); left > 0 {
				put(t, s, api.Multi, many(left-1)...)
			}
			refuses(t, s, api.ErrFull, api.Vec)
		}
	}
	s := made(t, api.MaxCells)
	refuses(t, s, api.ErrFull, api.Vec, many(api.MaxCells)...)
	put(t, s, api.Vec, many(api.MaxCells-1)...)
	refuses(t, s, api.ErrFull, api.Vec)
	s = made(t, api.MaxCells)
	for range api.MaxCells {
		if _, e := s.Make(api.Kont); e != api.OK {
			t.Fatalf("%d of %d: %d", s.Used(), api.MaxCells, e)
		}
	}
	if v, e := s.Make(api.Kont); v != (api.Value{}) || e != api.ErrFull || s.Used() != api.MaxCells {
		t.Errorf("one more: %v, %d, %d used", v, e, s.Used())
	}
}

// The pieces of syntax that tests wrap.

func leaf(text string) api.Stx { return api.Stx{Kind: api.Symbol, Text: text, At: len(text)} }
func list(in ...api.Stx) api.Stx {
	return api.Stx{Kind: api.List, List: in, At: -1}
}

// weighed is a piece, and how many cells an object with it takes.
type weighed struct {
	x     api.Stx
	cells int
}

// pieces are pieces of syntax of many kinds, sound and not.
func pieces() []weighed {
	marked := leaf("a")
	marked.Marks, marked.Subs = []int{5, 6}, []int{0, 7, 0}
	whole := api.Stx{Kind: api.Integer, Num: num.Of(-3 * api.Base)}
	both := whole
	both.Marks = []int{api.Anti}
	odd := api.Stx{Kind: math.MinInt, Text: "\xFF", Num: api.Int{Neg: true, Limbs: []uint32{math.MaxUint32, 0, 0, 0}}, List: []api.Stx{{}, marked}, At: math.MaxInt, Marks: []int{0, -7}, Subs: []int{-1}}
	around := list(marked, list(), leaf("b"))
	around.Subs = []int{9, 9, 9, 9}
	wide := make([]int, 1000)
	return []weighed{
		{api.Stx{}, 2}, {leaf("a"), 2}, {leaf(strings.Repeat("a", 10000)), 2}, {list(), 2}, {marked, 7}, {whole, 4}, {both, 5},
		{list(leaf("a")), 3}, {list(leaf("a"), list(leaf("b"), leaf("c"))), 6}, {list(list(list())), 4}, {list(marked, whole, both), 2 + 6 + 3 + 4},
		{around, 2 + 4 + 6 + 1 + 1}, {odd, 2 + 2 + 1 + 4 + 1 + 6}, {list(odd, odd), 2 + 2*15},
		{api.Stx{Kind: api.Vector, Marks: wide, Subs: wide[:7], List: make([]api.Stx, 50)}, 2 + 1007 + 50},
		{api.Stx{Kind: api.Other, Num: api.Int{Limbs: make([]uint32, 99)}}, 101},
	}
}

// alike tells if both pieces are the same in all.
func alike(a, b api.Stx) bool {
	return a.Kind == b.Kind && a.Text == b.Text && a.At == b.At && a.Num.Neg == b.Num.Neg && slices.Equal(a.Num.Limbs, b.Num.Limbs) &&
		slices.Equal(a.Marks, b.Marks) && slices.Equal(a.Subs, b.Subs) && slices.EqualFunc(a.List, b.List, alike)
}

// copied is x with memory of its own.
func copied(x api.Stx) api.Stx {
	x.Num.Limbs, x.Marks, x.Subs, x.List = slices.Clone(x.Num.Limbs), slices.Clone(x.Marks), slices.Clone(x.Subs), slices.Clone(x.List)
	for i := range x.List {
		x.List[i] = copied(x.List[i])
	}
	return x
}

// spoil changes all that x holds, at any depth, and the spare room of its lists.
func spoil(x *api.Stx) {
	full(x.Num.Limbs, 77)
	full(x.Marks, 77)
	full(x.Subs, 77)
	for i := range x.List {
		spoil(&x.List[i])
	}
	full(x.List, leaf("spoilt"))
}

// full fills list and its spare room with x.
func full[T any](list []T, x T) {
	list = list[:cap(list)]
	for i := range list {
		list[i] = x
	}
}

// wrapped makes an object with x, for which there has to be room, and holds what the store tells of it against what it should.
func wrapped(t *testing.T, s *store.Store, w weighed) api.Value {
	t.Helper()
	used := s.Used()
	v, e := s.Wrap(w.x)
	if e != api.OK || v.Tag != api.TObj || !s.Sound(v) || s.Kind(v) != api.Syn || s.Len(v) != 0 || s.Used() != used+w.cells {
		t.Fatalf("Wrap of %.200s: %v, %d; kind %d, %d slots, %d more used, not %d", fmt.Sprint(w.x), v, e, s.Kind(v), s.Len(v), s.Used()-used, w.cells)
	}
	has(t, s, v, w.x)
	return v
}

// has tells if v has the piece want.
func has(t *testing.T, s *store.Store, v api.Value, want api.Stx) {
	t.Helper()
	if x, e := s.Unwrap(v); e != api.OK || !alike(x, want) {
		t.Fatalf("Unwrap of %v: %.200s, %d, not %.200s", v, fmt.Sprint(x), e, fmt.Sprint(want))
	}
}

// overfull tells if there is no room to wrap x, and all stays as it was.
func overfull(t *testing.T, s *store.Store, x api.Stx) {
	t.Helper()
	before := told(s)
	if v, e := s.Wrap(x); v != (api.Value{}) || e != api.ErrFull {
		t.Fatalf("Wrap with too little room: %v, %d", v, e)
	}
	if after := told(s); after != before {
		t.Fatalf("Wrap, refused, left %.200s of %.200s", after, before)
	}
}

func TestWrap(t *testing.T) {
	s := made(t, 1<<16)
	var list []api.Value
	for i, w := range pieces() {
		v := wrapped(t, s, w)
		if v != obj(i) {
			t.Errorf("object %d is %v", i, v)
		}
		list = append(list, v)
		for cells := range w.cells {
			overfull(t, made(t, cells), w.x)
		}
		wrapped(t, made(t, w.cells), w)
		tight := made(t, w.cells+2)
		put(t, tight, api.Box, null)
		wrapped(t, tight, w)
		overfull(t, tight, api.Stx{})
		refuses(t, tight, api.ErrFull, api.Vec)
		tight = made(t, w.cells+1)
		put(t, tight, api.Box, null)
		overfull(t, tight, w.x)
	}
	for i, w := range pieces() {
		has(t, s, list[i], w.x)
	}
}

// Pieces whose lists are one list many times over, or hold themselves, are more than any room.
func TestWrapEndless(t *testing.T) {
	for _, cells := range []int{0, 1, 2, 1000, api.MaxCells} {
		s := made(t, cells)
		x := list(leaf("a"), leaf("b"))
		x.List[1] = x
		overfull(t, s, x)
		x.List[0], x.List[1] = x, x
		overfull(t, s, x)
		x = list(leaf("a"))
		x.List[0] = x
		overfull(t, s, x)
		x = list()
		for range 63 {
			x = list(x, x)
		}
		overfull(t, s, x)
		overfull(t, s, list(make([]api.Stx, api.MaxCells)...))
		overfull(t, s, api.Stx{Marks: make([]int, api.MaxCells)})
	}
	// What is one list twice is two, each with memory of its own.
	in := list(leaf("a"))
	s := made(t, 100)
	v := wrapped(t, s, weighed{list(in, in), 6})
	x, _ := s.Unwrap(v)
	x.List[0].List[0].Text = "b"
	if x.List[1].List[0].Text != "a" {
		t.Error("two lists of one answer share their memory")
	}
}

func TestWrapGreat(t *testing.T) {
	x := leaf("a")
	for range 1<<16 - 1 {
		x = list(x)
	}
	s := made(t, api.MaxCells)
	wrapped(t, s, weighed{x, 1<<16 + 1})
	wrapped(t, s, weighed{list(make([]api.Stx, 1<<19)...), 1<<19 + 2})
	if c := s.Copy(); c.Used() != s.Used() {
		t.Errorf("Copy: %d", c.Used())
	}
	if v, e := s.Collect(obj(0)); len(v) != 1 || e != api.OK || s.Used() != 1<<16+1 {
		t.Errorf("Collect: %v, %d, %d used", v, e, s.Used())
	}
	has(t, s, obj(0), x)
}

func TestUnwrapErrors(t *testing.T) {
	s := made(t, 1000)
	named(t, s, "a")
	wrapped(t, s, weighed{leaf("a"), 2})
	for kind := api.Pair; kind <= api.Multi; kind++ {
		put(t, s, kind, many([]int{0, 2, 3, 1, 0, 0, 5, 0, 0, 0}[kind])...)
	}
	for tag := -1; tag <= 11; tag++ {
		for _, n := range edges {
			v := value(tag, n)
			if v == obj(0) {
				continue
			}
			if x, e := s.Unwrap(v); !alike(x, api.Stx{}) || e != api.ErrType {
				t.Errorf("Unwrap of %v: %v, %d", v, x, e)
			}
		}
	}
}

// P6.2

func TestKindAndLen(t *testing.T) {
	s := made(t, 1000)
	named(t, s, "a")
	for n := range 12 {
		put(t, s, api.Frame, many(n)...)
	}
	for tag := -1; tag <= 11; tag++ {
		for _, n := range edges {
			v, kind, size := value(tag, n), 0, 0
			if tag == api.TObj && n >= 0 && n < 12 {
				kind, size = api.Frame, n
			}
			if s.Kind(v) != kind || s.Len(v) != size {
				t.Errorf("%v: kind %d, %d slots, not %d, %d", v, s.Kind(v), s.Len(v), kind, size)
			}
		}
	}
}

// slots tells if Get and Set of v's slot i answer that error, and change nothing beside it; where there is none, what is not sound is refused all the same.
func slots(t *testing.T, s *store.Store, v api.Value, i int, want api.Errno) {
	t.Helper()
	before := told(s)
	if x, e := s.Get(v, i); e != want || e != api.OK && x != (api.Value{}) {
		t.Errorf("Get of %v, %d: %v, %d, not error %d", v, i, x, e, want)
	}
	for _, bad := range []api.Value{obj(99), symbol(99), value(api.TNil, 1), value(10, 0)} {
		if e := s.Set(v, i, bad); e != want && (want != api.OK || e != api.ErrForm) {
			t.Errorf("Set of %v, %d to %v: %d, not error %d", v, i, bad, e, want)
		}
	}
	if e := s.Set(v, i, fix(7)); want != api.OK && e != want {
		t.Errorf("Set of %v, %d: %d, not error %d", v, i, e, want)
	}
	if after := told(s); want != api.OK && after != before {
		t.Errorf("Set of %v, %d, refused, left %s of %s", v, i, after, before)
	}
}

func TestGetAndSet(t *testing.T) {
	s := made(t, 1000)
	named(t, s, "a")
	for kind := api.Pair; kind <= api.Multi; kind++ {
		put(t, s, kind, many([]int{0, 2, 3, 1, 2, 4, 5, 0, 1, 7}[kind])...)
	}
	wrapped(t, s, weighed{list(leaf("a")), 3})
	for n := range 10 {
		v := obj(n)
		for _, i := range edges {
			want := api.ErrRange
			if i >= 0 && i < s.Len(v) {
				want = api.OK
			}
			slots(t, s, v, i, want)
		}
	}
	for tag := -1; tag <= 11; tag++ {
		for _, n := range edges {
			if tag == api.TObj && s.Sound(value(tag, n)) {
				continue
			}
			for _, i := range []int{math.MinInt, -1, 0, 1, math.MaxInt} {
				slots(t, s, value(tag, n), i, api.ErrType)
			}
		}
	}
}

func TestSet(t *testing.T) {
	s := made(t, 20)
	v := put(t, s, api.Vec, fix(0), fix(1), fix(2))
	other := put(t, s, api.Pair, fix(3), fix(4))
	for _, x := range []api.Value{null, value(api.TTrue, 0), value(api.TFalse, 0), value(api.TVoid, 0), fix(-1), value(api.TChar, 65), named(t, s, "a"), other, v, value(api.TPrim, 79), value(api.TUnset, 0)} {
		if e := s.Set(v, 1, x); e != api.OK {
			t.Errorf("Set to %v: %d", x, e)
		}
		holds(t, s, v, fix(0), x, fix(2))
		holds(t, s, other, fix(3), fix(4))
		if s.Used() != 7 {
			t.Errorf("%d used", s.Used())
		}
	}
	if e := s.Set(v, 1, obj(2)); e != api.ErrForm {
		t.Errorf("Set to what is no object: %d", e)
	}
	holds(t, s, v, fix(0), value(api.TUnset, 0), fix(2))
}

// P6.3

func TestSymbols(t *testing.T) {
	s := made(t, 0)
	names := []string{"a", "A", "b", "...", ".", "\u00E4", "a b", "(", "\x00", "\xFF", "\xFE", "12", "#t", " ", strings.Repeat("a", api.MaxName-1), strings.Repeat("a", api.MaxName), strings.Repeat("\xFF", api.MaxName)}
	for range 2 {
		for i, name := range names {
			if v := named(t, s, name); v != symbol(i) {
				t.Errorf("symbol %d, %q: %v", i, name, v)
			}
			if got, e := s.Name(symbol(i)); got != name || e != api.OK {
				t.Errorf("Name of %d: %q, %d, not %q", i, got, e, name)
			}
		}
		slices.Reverse(names)
		slices.Reverse(names)
	}
	for _, name := range []string{"", strings.Repeat("a", api.MaxName+1), strings.Repeat("\u00E4", api.MaxName/2) + "a", strings.Repeat("a", 1<<20)} {
		before := told(s)
		if v, e := s.Symbol(name); v != (api.Value{}) || e != api.ErrArg || told(s) != before {
			t.Errorf("Symbol of %d bytes: %v, %d", len(name), v, e)
		}
	}
	if s.Used() != 0 {
		t.Errorf("symbols take %d cells", s.Used())
	}
	for tag := -1; tag <= 11; tag++ {
		for _, n := range append(edges, len(names)-1, len(names)) {
			name, e := s.Name(value(tag, n))
			if tag == api.TSym && n >= 0 && n < len(names) {
				if name != names[n] || e != api.OK {
					t.Errorf("Name of %d: %q, %d", n, name, e)
				}
			} else if name != "" || e != api.ErrType {
				t.Errorf("Name of %v: %q, %d", value(tag, n), name, e)
			}
		}
	}
}

func TestManySymbols(t *testing.T) {
	s := made(t, 3)
	for range 2 {
		for n := range 1 << 15 {
			if v := named(t, s, fmt.Sprint("s", n)); v != symbol(n) {
				t.Fatalf("symbol %d: %v", n, v)
			}
		}
	}
	put(t, s, api.Pair, symbol(1<<15-1), symbol(0))
	refuses(t, s, api.ErrForm, api.Box, symbol(1<<15))
}

// P6.4

// collects tells if Collect answers roots as these, and leaves what is told.
func collects(t *testing.T, s *store.Store, left string, roots, want []api.Value) {
	t.Helper()
	got, e := s.Collect(roots...)
	if e != api.OK || !slices.Equal(got, want) {
		t.Errorf("Collect of %v: %v, %d, not %v", roots, got, e, want)
	}
	if now := told(s); now != left {
		t.Errorf("Collect of %v left %s, not %s", roots, now, left)
	}
}

func TestCollect(t *testing.T) {
	first := func() *store.Store {
		s := made(t, 40)
		named(t, s, "a")
		put(t, s, api.Box, fix(7))                         // 0
		put(t, s, api.Pair, obj(0), symbol(0))             // 1
		put(t, s, api.Vec, obj(0), obj(1), obj(0))         // 2
		wrapped(t, s, weighed{leaf("x"), 2})               // 3
		put(t, s, api.Frame, obj(3), value(api.TUnset, 0)) // 4
		put(t, s, api.Box, null)                           // 5
		put(t, s, api.Multi, obj(5), value(api.TPrim, 1))  // 6
		put(t, s, api.Big, fix(0), fix(1))                 // 7
		if e := s.Set(obj(5), 0, obj(6)); e != api.OK {    // 5 and 6 hold one another
			t.Fatal(e)
		}
		return s
	}
	// left is what another store tells that has had just these objects from the beginning.
	left := func(f func(s *store.Store)) string {
		s := made(t, 40)
		named(t, s, "a")
		f(s)
		return told(s)
	}
	none := left(func(s *store.Store) {})
	collects(t, first(), none, nil, nil)
	plain := []api.Value{null, fix(2), symbol(0), value(api.TChar, 65), value(api.TPrim, 3), value(api.TUnset, 0), value(api.TVoid, 0)}
	collects(t, first(), none, plain, plain)
	all := []api.Value{obj(7), obj(2), obj(4), obj(6)}
	collects(t, first(), told(first()), all, all)
	one := left(func(s *store.Store) { put(t, s, api.Box, fix(7)) })
	collects(t, first(), one, []api.Value{obj(0)}, []api.Value{obj(0)})
	big := left(func(s *store.Store) { put(t, s, api.Big, fix(0), fix(1)) })
	collects(t, first(), big, []api.Value{obj(7)}, []api.Value{obj(0)})
	twice := left(func(s *store.Store) { put(t, s, api.Box, fix(7)); put(t, s, api.Big, fix(0), fix(1)) })
	collects(t, first(), twice, []api.Value{obj(7), fix(1), obj(0), obj(7)}, []api.Value{obj(1), fix(1), obj(0), obj(1)})
	pair := left(func(s *store.Store) { put(t, s, api.Box, fix(7)); put(t, s, api.Pair, obj(0), symbol(0)) })
	collects(t, first(), pair, []api.Value{obj(1)}, []api.Value{obj(1)})
	syn := left(func(s *store.Store) {
		wrapped(t, s, weighed{leaf("x"), 2})
		put(t, s, api.Frame, obj(0), value(api.TUnset, 0))
	})
	collects(t, first(), syn, []api.Value{obj(4)}, []api.Value{obj(1)})
	round := left(func(s *store.Store) {
		put(t, s, api.Box, null)
		put(t, s, api.Multi, obj(0), value(api.TPrim, 1))
		s.Set(obj(0), 0, obj(1))
	})
	collects(t, first(), round, []api.Value{obj(6)}, []api.Value{obj(1)})
	collects(t, first(), round, []api.Value{obj(5)}, []api.Value{obj(0)})
}

func TestCollectRefused(t *testing.T) {
	s := made(t, 20)
	named(t, s, "a")
	v := put(t, s, api.Box, null)
	put(t, s, api.Pair, v, v)
	before := told(s)
	for _, bad := range []api.Value{obj(2), obj(-1), symbol(1), value(api.TTrue, 1), value(api.TChar, -1), value(api.TPrim, 256), value(10, 0), value(-1, 0)} {
		for _, roots := range [][]api.Value{{bad}, {v, bad}, {bad, v}, {v, bad, v}, {null, null, bad}} {
			if got, e := s.Collect(roots...); got != nil || e != api.ErrForm || told(s) != before {
				t.Errorf("Collect of %v: %v, %d; %s of %s", roots, got, e, told(s), before)
			}
		}
	}
}

// What was given up has room again, its numbers are free, and its values are no more.
func TestCollectRoom(t *testing.T) {
	s := made(t, 100)
	kept := put(t, s, api.Box, fix(-1))
	for round := range 500 {
		for s.Used() < 95 {
			put(t, s, api.Vec, kept, fix(round), kept, null)
		}
		refuses(t, s, api.ErrFull, api.Vec, many(5)...)
		last := 0
		for s.Sound(obj(last + 1)) {
			last++
		}
		v, e := s.Collect(obj(last-round%3), kept)
		if e != api.OK || len(v) != 2 || v[1] != obj(0) || v[0] != obj(1) || s.Used() != 7 || s.Sound(obj(2)) {
			t.Fatalf("round %d: %v, %d, %d used", round, v, e, s.Used())
		}
		holds(t, s, obj(0), fix(-1))
		holds(t, s, obj(1), kept, fix(round), kept, null)
		kept = v[1]
	}
}

// Chains that are long, and boxes that hold what was made later, are gone along without an end of the stack.
func TestCollectLong(t *testing.T) {
	s := made(t, api.MaxCells)
	last := null
	for i := 0; s.Used() <= api.MaxCells-6; i++ {
		v, _ := s.Make(api.Pair, fix(i), last)
		s.Make(api.Pair, v, v)
		last = v
	}
	n := s.Used() / 6
	got, e := s.Collect(last)
	if e != api.OK || len(got) != 1 || got[0] != obj(n-1) || s.Used() != 3*n {
		t.Fatalf("Collect: %v, %d, %d used", got, e, s.Used())
	}
	for i := range n {
		want := null
		if i > 0 {
			want = obj(i - 1)
		}
		head, _ := s.Get(obj(i), 0)
		tail, _ := s.Get(obj(i), 1)
		if head != fix(i) || tail != want {
			t.Fatalf("%d: %v, %v", i, head, tail)
		}
	}
	s = made(t, api.MaxCells)
	for i := range api.MaxCells / 2 {
		s.Make(api.Box, null)
		s.Set(obj(i-1), 0, obj(i))
	}
	if got, e := s.Collect(obj(0)); e != api.OK || len(got) != 1 || s.Used() != api.MaxCells {
		t.Errorf("Collect: %v, %d, %d used", got, e, s.Used())
	}
	if got, e := s.Collect(obj(api.MaxCells / 4)); e != api.OK || len(got) != 1 || got[0] != obj(0) || s.Used() != api.MaxCells/2 {
		t.Errorf("Collect: %v, %d, %d used", got, e, s.Used())
	}
}

func TestCopy(t *testing.T) {
	first := func() *store.Store {
		s := made(t, 24)
		named(t, s, "a")
		put(t, s, api.Pair, fix(1), symbol(0))
		put(t, s, api.Vec, obj(0), obj(0))
		wrapped(t, s, weighed{list(leaf("x")), 3})
		return s
	}
	change := func(s *store.Store) {
		s.Set(obj(0), 0, obj(1))
		s.Set(obj(1), 1, fix(9))
		named(t, s, "b")
		put(t, s, api.Box, symbol(1))
		s.Collect(obj(3), obj(2))
		named(t, s, "c")
		wrapped(t, s, weighed{leaf("y"), 2})
	}
	plain, changed := first(), first()
	change(changed)
	a := first()
	b := a.Copy()
	if a == b || told(a) != told(plain) || told(b) != told(plain) {
		t.Fatalf("Copy: %s, %s, not %s", told(a), told(b), told(plain))
	}
	change(a)
	if told(a) != told(changed) || told(b) != told(plain) {
		t.Errorf("a change of the one: %s; %s", told(a), told(b))
	}
	c := b.Copy()
	change(c)
	if told(b) != told(plain) || told(c) != told(changed) {
		t.Errorf("a change of its copy: %s; %s", told(b), told(c))
	}
	put(t, b, api.Vec, many(24-b.Used()-1)...) // the room is the same, too
	refuses(t, b, api.ErrFull, api.Vec)
	full := b.Copy()
	refuses(t, full, api.ErrFull, api.Vec)
	overfull(t, full, api.Stx{})
	if empty := made(t, 2).Copy(); empty.Used() != 0 || named(t, empty, "a") != symbol(0) || put(t, empty, api.Box, null) != obj(0) {
		t.Errorf("the copy of an empty one: %s", told(empty))
	}
}

// nothing tells if s, which is nil, answers nothing about any value, and ErrArg where it answers an error.
func nothing(t *testing.T, s *store.Store) {
	t.Helper()
	for tag := -1; tag <= 11; tag++ {
		for _, n := range edges {
			v := value(tag, n)
			x, e1 := s.Unwrap(v)
			slot, e2 := s.Get(v, 0)
			e3 := s.Set(v, 0, v)
			name, e4 := s.Name(v)
			left, e5 := s.Collect(v)
			if s.Sound(v) || s.Kind(v) != 0 || s.Len(v) != 0 || !alike(x, api.Stx{}) || slot != (api.Value{}) || name != "" || left != nil {
				t.Errorf("%v: %v, %d, %d, %v, %v, %q, %v", v, s.Sound(v), s.Kind(v), s.Len(v), x, slot, name, left)
			}
			for _, e := range []api.Errno{e1, e2, e3, e4, e5} {
				if e != api.ErrArg {
					t.Errorf("%v: %d, %d, %d, %d, %d", v, e1, e2, e3, e4, e5)
				}
			}
		}
	}
}

func TestNil(t *testing.T) {
	var s *store.Store
	nothing(t, s)
	for kind := range 12 {
		for n := range 3 {
			if v, e := s.Make(kind, many(n)...); v != (api.Value{}) || e != api.ErrArg {
				t.Errorf("Make of %d with %d slots: %v, %d", kind, n, v, e)
			}
		}
	}
	endless := list(leaf("a"))
	endless.List[0] = endless
	for _, x := range []api.Stx{{}, leaf("a"), endless} {
		if v, e := s.Wrap(x); v != (api.Value{}) || e != api.ErrArg {
			t.Errorf("Wrap: %v, %d", v, e)
		}
	}
	for _, name := range []string{"", "a"} {
		if v, e := s.Symbol(name); v != (api.Value{}) || e != api.ErrArg {
			t.Errorf("Symbol: %v, %d", v, e)
		}
	}
	if v, e := s.Collect(); v != nil || e != api.ErrArg {
		t.Errorf("Collect: %v, %d", v, e)
	}
	if s.Used() != 0 || s.Copy() != nil {
		t.Errorf("%d used, %v", s.Used(), s.Copy())
	}
}

// A store that New did not make is one without room.
func TestUnmade(t *testing.T) {
	s := new(store.Store).Copy()
	if s.Used() != 0 || s.Sound(obj(0)) || s.Sound(symbol(0)) || !s.Sound(null) {
		t.Errorf("%s", told(s))
	}
	refuses(t, s, api.ErrFull, api.Vec)
	refuses(t, s, api.ErrArg, api.Syn)
	overfull(t, s, api.Stx{})
	if v := named(t, s, "a"); v != symbol(0) || s.Used() != 0 {
		t.Errorf("%v", v)
	}
	collects(t, s, told(s), []api.Value{symbol(0)}, []api.Value{symbol(0)})
	if named(t, s.Copy(), "b") != symbol(1) || s.Sound(symbol(1)) {
		t.Error("its copy is no store of its own")
	}
}

// R4

// Slots, and roots, are neither changed, spare room included, nor kept.
func TestSlotsMemory(t *testing.T) {
	s := made(t, 100)
	spare := []api.Value{fix(1), fix(2), fix(3), fix(4)}
	before := slices.Clone(spare)
	for n := range 5 {
		v := put(t, s, api.Vec, spare[:n]...)
		full(spare, fix(77))
		holds(t, s, v, before[:n]...)
		copy(spare, before)
		for i := range n {
			s.Set(v, i, fix(88))
		}
		if !slices.Equal(spare, before) {
			t.Fatalf("slots that were handed in: %v", spare)
		}
	}
	roots := []api.Value{obj(4), obj(2), obj(0), obj(1)}
	before = slices.Clone(roots)
	a, _ := s.Collect(roots[:2]...)
	if !slices.Equal(roots, before) {
		t.Errorf("roots that were handed in: %v", roots)
	}
	full(roots, fix(77))
	b, _ := s.Collect(obj(0), obj(1))
	full(b, fix(66))
	if want := []api.Value{obj(1), obj(0)}; !slices.Equal(a, want) {
		t.Errorf("roots that were answered: %v", a)
	}
	holds(t, s, obj(0), fix(88), fix(88))
}

// Pieces are neither changed nor kept, and each answer is new.
func TestPiecesMemory(t *testing.T) {
	for _, w := range pieces() {
		x := copied(w.x)
		s := made(t, 10000)
		v := wrapped(t, s, weighed{x, w.cells})
		if !alike(x, w.x) {
			t.Fatalf("a piece that was handed in: %v", x)
		}
		c := s.Copy()
		spoil(&x)
		has(t, s, v, w.x)
		a, _ := s.Unwrap(v)
		b, _ := c.Unwrap(v)
		spoil(&a)
		has(t, s, v, w.x)
		has(t, c, v, w.x)
		if !alike(b, w.x) {
			t.Fatalf("a piece that was answered: %v", b)
		}
		s.Collect()
		has(t, c, v, w.x)
	}
}

// A piece's spare room isn't written to.
func TestPiecesSpare(t *testing.T) {
	marks := []int{1, 2, 3, 4}
	limbs := []uint32{1, 2, 3, 4}
	in := []api.Stx{leaf("a"), leaf("b"), leaf("c")}
	x := api.Stx{Kind: api.List, Num: api.Int{Limbs: limbs[:1]}, List: in[:1], Marks: marks[:2], Subs: marks[1:3]}
	s := made(t, 100)
	v := wrapped(t, s, weighed{x, 2 + 1 + 1 + 2 + 2})
	s.Unwrap(v)
	if !slices.Equal(marks, []int{1, 2, 3, 4}) || !slices.Equal(limbs, []uint32{1, 2, 3, 4}) || !slices.EqualFunc(in, []api.Stx{leaf("a"), leaf("b"), leaf("c")}, alike) {
		t.Errorf("%v, %v, %v", marks, limbs, in)
	}
	got, _ := s.Unwrap(v)
	got.Marks[1] = 9 // two lists that were one do not share in the answer
	if got.Subs[0] != 2 || !alike(x, api.Stx{Kind: api.List, Num: api.Int{Limbs: []uint32{1}}, List: []api.Stx{leaf("a")}, Marks: []int{1, 2}, Subs: []int{2, 3}}) {
		t.Errorf("%v, %v", got, x)
	}
}
