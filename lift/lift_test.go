package lift_test

import (
	"fmt"
	"math"
	"slices"
	"strings"
	"testing"

	"marginalia/api"
	"marginalia/lift"
	"marginalia/num"
	"marginalia/store"
)

// The values that tests hand in.

func value(tag, n int) api.Value { return api.Value{Tag: tag, N: n} }
func fix(n int) api.Value        { return value(api.TFix, n) }
func chr(c rune) api.Value       { return value(api.TChar, int(c)) }
func obj(n int) api.Value        { return value(api.TObj, n) }

var null = value(api.TNil, 0)

// The datums that tests hand in; where one stands is not asked, and so differs.

func leaf(kind int, text string) api.Datum { return api.Datum{Kind: kind, Text: text} }
func sym(text string) api.Datum            { return leaf(api.Symbol, text) }
func str(text string) api.Datum            { return leaf(api.String, text) }
func other(text string) api.Datum          { return leaf(api.Other, text) }
func whole(n int) api.Datum                { return integer(num.Of(n)) }
func integer(x api.Int) api.Datum          { return api.Datum{Kind: api.Integer, Num: x} }
func group(kind int, in ...api.Datum) api.Datum {
	return api.Datum{Kind: kind, List: in}
}
func list(in ...api.Datum) api.Datum   { return group(api.List, in...) }
func dotted(in ...api.Datum) api.Datum { return group(api.Dotted, in...) }
func vector(in ...api.Datum) api.Datum { return group(api.Vector, in...) }

// placed is d, each datum in it standing somewhere else.
func placed(d api.Datum) api.Datum {
	at := 0
	return stood(d, &at)
}

func stood(d api.Datum, at *int) api.Datum {
	*at += 3
	d.At = *at
	d.List = slices.Clone(d.List)
	for i := range d.List {
		d.List[i] = stood(d.List[i], at)
	}
	return d
}

// nested is d within n groups of that kind.
func nested(n, kind int, d api.Datum) api.Datum {
	for range n {
		d = group(kind, d)
	}
	return d
}

// alike tells if both are the same, places among it.
func alike(a, b api.Datum) bool {
	if a.Kind != b.Kind || a.Text != b.Text || a.At != b.At || a.Num.Neg != b.Num.Neg {
		return false
	}
	return slices.Equal(a.Num.Limbs, b.Num.Limbs) && slices.EqualFunc(a.List, b.List, alike)
}

// brief is what tests tell of a datum: not much of what is in it.
func brief(d api.Datum) string {
	text := fmt.Sprintf("{kind %d, %.60q, %v, at %d, with %d in it", d.Kind, d.Text, d.Num, d.At, len(d.List))
	for _, in := range d.List[:min(len(d.List), 3)] {
		text += fmt.Sprintf("; kind %d, %.20q, %d", in.Kind, in.Text, len(in.List))
	}
	return text + "}"
}

// made is a new store.
func made(t *testing.T, cells int) *store.Store {
	t.Helper()
	s, e := store.New(cells)
	if e != api.OK {
		t.Fatalf("New(%d): %d", cells, e)
	}
	return s
}

// wide is a new store with all the room that one may have.
func wide(t *testing.T) *store.Store {
	t.Helper()
	return made(t, api.MaxCells)
}

// put makes an object.
func put(t *testing.T, s *store.Store, kind int, slots ...api.Value) api.Value {
	t.Helper()
	v, e := s.Make(kind, slots...)
	if e != api.OK {
		t.Fatalf("Make of %d with %d slots: %d", kind, len(slots), e)
	}
	return v
}

// set puts x into slot i of v.
func set(t *testing.T, s *store.Store, v api.Value, i int, x api.Value) {
	t.Helper()
	if e := s.Set(v, i, x); e != api.OK {
		t.Fatalf("Set of slot %d of %v: %d", i, v, e)
	}
}

// named is the symbol of name.
func named(t *testing.T, s *store.Store, name string) api.Value {
	t.Helper()
	v, e := s.Symbol(name)
	if e != api.OK {
		t.Fatalf("Symbol(%q): %d", name, e)
	}
	return v
}

// syntax makes an object with a piece of syntax.
func syntax(t *testing.T, s *store.Store, x api.Stx) api.Value {
	t.Helper()
	v, e := s.Wrap(x)
	if e != api.OK {
		t.Fatalf("Wrap: %d", e)
	}
	return v
}

// slotsOf are v's slots.
func slotsOf(s *store.Store, v api.Value) []api.Value {
	var slots []api.Value
	for i := range s.Len(v) {
		x, _ := s.Get(v, i)
		slots = append(slots, x)
	}
	return slots
}

// told is all that a store tells of itself: of its objects and symbols, and how much room they take.
func told(s *store.Store) string {
	var b strings.Builder
	fmt.Fprint(&b, s.Used())
	for n := 0; s.Sound(obj(n)); n++ {
		x, e := s.Unwrap(obj(n))
		fmt.Fprintf(&b, "; %d:%v%v%d", s.Kind(obj(n)), slotsOf(s, obj(n)), x, e)
	}
	for n := 0; s.Sound(value(api.TSym, n)); n++ {
		name, _ := s.Name(value(api.TSym, n))
		fmt.Fprintf(&b, "; %q", name)
	}
	return b.String()
}

// shown is what v stands for, written out: as far as there are objects, their kinds and slots in turn.
func shown(s *store.Store, v api.Value) string {
	var b strings.Builder
	show(&b, s, v)
	return b.String()
}

func show(b *strings.Builder, s *store.Store, v api.Value) {
	kind := s.Kind(v)
	switch {
	case v.Tag == api.TSym:
		name, _ := s.Name(v)
		fmt.Fprintf(b, "%q", name)
	case kind == 0:
		fmt.Fprintf(b, "%d:%d", v.Tag, v.N)
	default:
		fmt.Fprintf(b, "{%d", kind)
		for _, x := range slotsOf(s, v) {
			b.WriteByte(' ')
			show(b, s, x)
		}
		b.WriteByte('}')
	}
}

// parsed is the integer of a text.
func parsed(t *testing.T, text string) api.Int {
	t.Helper()
	x, ok := num.Parse(text)
	if !ok {
		t.Fatalf("Parse(%.40q)", text)
	}
	return x
}

// limbs is the integer of limbs, sound or not.
func limbs(neg bool, list ...uint32) api.Int { return api.Int{Neg: neg, Limbs: list} }

// equalInts tells if both are the same.
func equalInts(a, b api.Int) bool { return a.Neg == b.Neg && slices.Equal(a.Limbs, b.Limbs) }

// bigSlots are the slots that a Big of x has.
func bigSlots(x api.Int) []api.Value {
	slots := []api.Value{fix(0)}
	if x.Neg {
		slots[0] = fix(1)
	}
	for _, l := range x.Limbs {
		slots = append(slots, fix(int(l)))
	}
	return slots
}

// top is the greatest limb.
const top = api.Base - 1

// greats are integers that need an object, from the least one on, and those below 0.
func greats() []api.Int {
	var list []api.Int
	for _, neg := range []bool{false, true} {
		for _, x := range [][]uint32{{0, 0, 1}, {1, 0, 1}, {0, 1, 1}, {top, top, 1}, {854775807, 223372036, 9}, {854775808, 223372036, 9}, {709551616, 446744073, 18}, {0, 0, top}, {5, 6, 7, 8}, slices.Repeat([]uint32{top}, api.MaxLimbs), append(make([]uint32, api.MaxLimbs-1), 1)} {
			list = append(list, limbs(neg, x...))
		}
	}
	return list
}

// smalls are ints that need no object.
func smalls() []int {
	var list []int
	for _, n := range []int{0, 1, 2, 9, 10, 255, 256, api.Base - 1, api.Base, api.Base + 1, math.MaxInt32, math.MaxUint32, lift.Fixes / 2, lift.Fixes - api.Base, lift.Fixes - 2, lift.Fixes - 1} {
		list = append(list, n, -n)
	}
	return list
}

// unsounds are integers that are none.
func unsounds() []api.Int {
	return []api.Int{
		limbs(true), limbs(false, 0), limbs(true, 0), limbs(false, 1, 0), limbs(true, 1, 2, 3, 0), limbs(false, api.Base), limbs(false, 1, api.Base), limbs(false, api.Base, 1), limbs(true, 1, 2, math.MaxUint32, 4),
		limbs(false, slices.Repeat([]uint32{1}, api.MaxLimbs+1)...), limbs(true, slices.Repeat([]uint32{1}, 1000)...),
	}
}

// P8.1

func TestFixes(t *testing.T) {
	if n := lift.Fixes; n != api.Base*api.Base {
		t.Errorf("%d", n)
	}
}

// A small integer needs no room at all.
func TestSmall(t *testing.T) {
	s := made(t, 0)
	for _, n := range smalls() {
		v, e := lift.Int(s, num.Of(n))
		if v != fix(n) || e != api.OK {
			t.Errorf("Int of %d: %v, %d", n, v, e)
		}
		x, e := lift.Num(s, fix(n))
		if !equalInts(x, num.Of(n)) || e != api.OK {
			t.Errorf("Num of %d: %v, %d", n, x, e)
		}
	}
	if told(s) != told(made(t, 0)) {
		t.Errorf("%s", told(s))
	}
}

func TestGreat(t *testing.T) {
	s := wide(t)
	for _, x := range greats() {
		used := s.Used()
		v, e := lift.Int(s, x)
		if e != api.OK || v.Tag != api.TObj || s.Kind(v) != api.Big || !slices.Equal(slotsOf(s, v), bigSlots(x)) || s.Used() != used+2+len(x.Limbs) {
			t.Errorf("Int of %v: %v, %d, kind %d, %v, %d used of %d ahead", x, v, e, s.Kind(v), slotsOf(s, v), s.Used(), used)
		}
		back, e := lift.Num(s, v)
		if !equalInts(back, x) || e != api.OK {
			t.Errorf("Num of %v: %v, %d", x, back, e)
		}
		again, _ := lift.Int(s, x)
		if again == v {
			t.Errorf("Int of %v twice: %v", x, v)
		}
	}
}

func TestIntUnsound(t *testing.T) {
	for _, cells := range []int{0, 1000} {
		for _, x := range unsounds() {
			s := made(t, cells)
			if v, e := lift.Int(s, x); v != null || e != api.ErrForm || s.Used() != 0 {
				t.Errorf("Int of %v: %v, %d", x, v, e)
			}
		}
	}
	for _, x := range slices.Concat(unsounds(), greats(), []api.Int{{}, num.Of(5)}) {
		if v, e := lift.Int(nil, x); v != null || e != api.ErrForm {
			t.Errorf("Int of %v without a store: %v, %d", x, v, e)
		}
	}
}

// A great integer takes a cell for each limb, one for the sign and one for itself: with less room it is refused, and nothing is changed.
func TestIntFull(t *testing.T) {
	for _, x := range greats() {
		need := 2 + len(x.Limbs)
		for _, cells := range []int{0, 1, need - 2, need - 1} {
			s := made(t, cells)
			if v, e := lift.Int(s, x); v != null || e != api.ErrFull || s.Used() != 0 {
				t.Errorf("Int of %v, %d cells: %v, %d", x, cells, v, e)
			}
		}
		s := made(t, need)
		if v, e := lift.Int(s, x); e != api.OK || s.Used() != need {
			t.Errorf("Int of %v, %d cells: %v, %d", x, need, v, e)
		}
		if v, e := lift.Int(s, x); v != null || e != api.ErrFull || s.Used() != need {
			t.Errorf("Int of %v, no cells: %v, %d", x, v, e)
		}
	}
	if v, e := lift.Int(new(store.Store), greats()[0]); v != null || e != api.ErrFull {
		t.Errorf("Int in a store that New did not make: %v, %d", v, e)
	}
}

// noNum tells if v is no number, also if it stands in a datum.
func noNum(t *testing.T, s *store.Store, v api.Value) {
	t.Helper()
	if x, e := lift.Num(s, v); e != api.ErrType || x.Neg || x.Limbs != nil {
		t.Errorf("Num of %v, %v: %v, %d", v, slotsOf(s, v), x, e)
	}
}

func TestNumNone(t *testing.T) {
	s := wide(t)
	named(t, s, "a")
	put(t, s, api.Vec, bigSlots(greats()[0])...)
	for tag := -2; tag < 12; tag++ {
		for _, n := range []int{math.MinInt, -lift.Fixes, -2, -1, 0, 1, 2, 255, 256, lift.Fixes, math.MaxInt} {
			if v := value(tag, n); tag != api.TFix || n == min(n, -lift.Fixes) || n == max(n, lift.Fixes) {
				noNum(t, s, v)
				noNum(t, nil, v)
				noNum(t, new(store.Store), v)
			}
		}
	}
	for _, n := range smalls() {
		noNum(t, nil, fix(n))
	}
	for kind := api.Pair; kind <= api.Multi; kind++ {
		slots := bigSlots(greats()[0])
		switch kind {
		case api.Big:
			continue
		case api.Pair:
			slots = slots[:2]
		case api.Box:
			slots = slots[:1]
		}
		noNum(t, s, put(t, s, kind, slots...))
	}
	noNum(t, s, syntax(t, s, api.Stx{Kind: api.Integer, Num: greats()[0]}))
	noNum(t, s, obj(1000))
}

// badBigs are the slots of Bigs that are no number.
func badBigs() [][]api.Value {
	bad := [][]api.Value{
		{}, {fix(0)}, {fix(1)}, {fix(0), fix(5)}, {fix(1), fix(5)}, {fix(0), fix(0)}, {fix(0), fix(top), fix(top)}, {fix(1), fix(top), fix(top)}, // small ones
		{fix(0), fix(1), fix(2), fix(0)}, {fix(0), fix(1), fix(2), fix(3), fix(0)}, {fix(1), fix(0), fix(0), fix(0)},
		append([]api.Value{fix(0)}, slices.Repeat([]api.Value{fix(1)}, api.MaxLimbs+1)...), append([]api.Value{fix(1)}, slices.Repeat([]api.Value{fix(1)}, 100000)...),
		{null, null, null, null}, {fix(lift.Fixes)}, {value(api.TTrue, 0)},
	}
	for _, x := range []api.Int{greats()[0], greats()[8], limbs(true, 1, 2, 3, 4)} {
		for i := range len(x.Limbs) + 1 {
			for _, v := range []api.Value{fix(-1), fix(api.Base), fix(math.MaxUint32 + 2), fix(math.MinInt), fix(math.MinInt + 1), fix(math.MaxInt), fix(2 * api.Base), null, value(api.TTrue, 0), value(api.TChar, 1), value(api.TPrim, 1), value(api.TUnset, 0), obj(0)} {
				slots := bigSlots(x)
				slots[i] = v
				bad = append(bad, slots)
			}
		}
		for _, v := range []api.Value{fix(2), fix(3), fix(top)} {
			slots := bigSlots(x)
			slots[0] = v
			bad = append(bad, slots)
		}
	}
	return bad
}

func TestNumBig(t *testing.T) {
	s := wide(t)
	put(t, s, api.Box, fix(1))
	for _, slots := range badBigs() {
		noNum(t, s, put(t, s, api.Big, slots...))
	}
	for _, x := range greats() {
		v := put(t, s, api.Big, bigSlots(x)...)
		if back, e := lift.Num(s, v); !equalInts(back, x) || e != api.OK {
			t.Errorf("Num of a Big that Make made of %v: %v, %d", x, back, e)
		}
		set(t, s, v, 1, null)
		noNum(t, s, v)
		set(t, s, v, 1, fix(77))
		x.Limbs = slices.Clone(x.Limbs)
		x.Limbs[0] = 77
		if back, e := lift.Num(s, v); !equalInts(back, x) || e != api.OK {
			t.Errorf("Num of a Big that Set changed to %v: %v, %d", x, back, e)
		}
	}
}

// Neither Int nor Num keeps what it is handed, or hands out what is kept.
func TestNumMemory(t *testing.T) {
	s := wide(t)
	spare := []uint32{1, 2, 3, 4, 5}
	v, _ := lift.Int(s, limbs(false, spare[:3]...))
	if !slices.Equal(spare, []uint32{1, 2, 3, 4, 5}) {
		t.Errorf("%v", spare)
	}
	clear(spare)
	a, _ := lift.Num(s, v)
	b, _ := lift.Num(s, v)
	clear(a.Limbs)
	c, _ := lift.Num(s, v)
	for _, x := range []api.Int{b, c} {
		if !equalInts(x, limbs(false, 1, 2, 3)) {
			t.Errorf("%v", x)
		}
	}
	a, _ = lift.Num(s, fix(5))
	a.Limbs[0] = 6
	if b, _ = lift.Num(s, fix(5)); !equalInts(b, num.Of(5)) {
		t.Errorf("%v", b)
	}
}
