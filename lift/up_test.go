package lift_test

import (
	"math"
	"slices"
	"strings"
	"testing"

	"marginalia/api"
	"marginalia/lift"
	"marginalia/num"
	"marginalia/print"
	"marginalia/read"
	"marginalia/store"
)

// rises holds what Up answers of v against its datum, which stands at 0, as all in it.
func rises(t *testing.T, s *store.Store, v api.Value, want api.Datum) {
	t.Helper()
	got, e := lift.Up(s, v)
	if e != api.OK || !alike(got, want) {
		t.Errorf("Up of %v: %s, %d, not %s", v, brief(got), e, brief(want))
	}
	if e == api.OK && !read.Sound(got) {
		t.Errorf("Up of %v: %s, which is not sound", v, brief(got))
	}
}

// stays tells if Up answers that error, and nothing.
func stays(t *testing.T, s *store.Store, v api.Value, want api.Errno) {
	t.Helper()
	if got, e := lift.Up(s, v); e != want || !alike(got, api.Datum{}) {
		t.Errorf("Up of %v: %s, %d, not error %d", v, brief(got), e, want)
	}
}

// chain makes Pairs of values that end with end.
func chain(t *testing.T, s *store.Store, end api.Value, values ...api.Value) api.Value {
	t.Helper()
	for i := len(values) - 1; i >= 0; i-- {
		end = put(t, s, api.Pair, values[i], end)
	}
	return end
}

// pile puts v into n objects, each in the next one: Pairs, or Vecs.
func pile(t *testing.T, s *store.Store, kind, n int, v api.Value) api.Value {
	t.Helper()
	for range n {
		if kind == api.Pair {
			v = put(t, s, kind, v, null)
		} else {
			v = put(t, s, kind, v)
		}
	}
	return v
}

// vec makes a Vec.
func vec(t *testing.T, s *store.Store, slots ...api.Value) api.Value {
	t.Helper()
	return put(t, s, api.Vec, slots...)
}

// many are that many values, all 1.
func many(n int) []api.Value { return slices.Repeat([]api.Value{fix(1)}, n) }

// ones are that many datums, all 1.
func ones(n int) []api.Datum { return slices.Repeat([]api.Datum{whole(1)}, n) }

// chars makes a Str of n characters.
func chars(t *testing.T, s *store.Store, n int) api.Value {
	t.Helper()
	return put(t, s, api.Str, slices.Repeat([]api.Value{chr('\U0001F600')}, n)...)
}

// P8.3

func TestUpPlain(t *testing.T) {
	s := wide(t)
	for _, c := range []struct {
		v    api.Value
		want api.Datum
	}{
		{null, list()}, {value(api.TTrue, 0), leaf(api.True, "")}, {value(api.TFalse, 0), leaf(api.False, "")}, {value(api.TVoid, 0), leaf(api.Void, "")}, {value(api.TUnset, 0), other("internal")},
		{chr(0), leaf(api.Char, "\x00")}, {chr('a'), leaf(api.Char, "a")}, {chr(' '), leaf(api.Char, " ")}, {chr(0xD7FF), leaf(api.Char, "\uD7FF")}, {chr(0xE000), leaf(api.Char, "\uE000")}, {chr(0xFFFD), leaf(api.Char, "\uFFFD")}, {chr(0x10FFFF), leaf(api.Char, "\U0010FFFF")},
		{value(api.TPrim, 0), other("procedure")}, {value(api.TPrim, 12), other("procedure")}, {value(api.TPrim, 63), other("procedure")}, {value(api.TPrim, 64), other("procedure")}, {value(api.TPrim, 255), other("procedure")},
		{put(t, s, api.Closure), other("procedure")}, {put(t, s, api.Closure, null, null), other("procedure")}, {put(t, s, api.Kont), other("procedure")}, {put(t, s, api.Kont, fix(1)), other("procedure")},
		{put(t, s, api.Box, fix(1)), other("box")}, {put(t, s, api.Box, null), other("box")},
		{put(t, s, api.Frame), other("internal")}, {put(t, s, api.Frame, fix(1), null), other("internal")}, {put(t, s, api.Multi), other("internal")}, {put(t, s, api.Multi, fix(1), fix(2)), other("internal")},
		{syntax(t, s, api.Stx{}), other("syntax")}, {syntax(t, s, api.Stx{Kind: api.Symbol, Text: "a"}), other("syntax")}, {syntax(t, s, api.Stx{Kind: -5, Text: "\xFF", Marks: []int{-3}}), other("syntax")},
		{put(t, s, api.Str), str("")}, {put(t, s, api.Str, chr('a')), str("a")}, {put(t, s, api.Str, chr(0xE4), chr('"'), chr(10), chr(0), chr(0x10FFFF)), str("\u00E4\"\n\x00\U0010FFFF")},
		{put(t, s, api.Vec), vector()}, {put(t, s, api.Vec, null), vector(list())}, {put(t, s, api.Vec, many(5)...), vector(ones(5)...)},
		{put(t, s, api.Pair, null, null), list(list())}, {put(t, s, api.Pair, fix(1), fix(2)), dotted(whole(1), whole(2))},
	} {
		rises(t, s, c.v, c.want)
		rises(t, s.Copy(), c.v, c.want)
		rises(t, s, vec(t, s, c.v, null, c.v), vector(c.want, list(), c.want))
		rises(t, s, chain(t, s, null, c.v, fix(1)), list(c.want, whole(1)))
		rises(t, s, chain(t, s, null, fix(1), c.v), list(whole(1), c.want))
		rises(t, s, chain(t, s, fix(2), c.v), dotted(c.want, whole(2)))
	}
}

// Any TFix is its Integer, also one that is no number of Num.
func TestUpFix(t *testing.T) {
	s := made(t, 0)
	for _, n := range slices.Concat(smalls(), []int{lift.Fixes, -lift.Fixes, lift.Fixes + 1, math.MaxInt, math.MaxInt - 1, math.MinInt, math.MinInt + 1}) {
		rises(t, s, fix(n), whole(n))
	}
}

func TestUpBig(t *testing.T) {
	s := wide(t)
	put(t, s, api.Box, fix(1))
	for _, x := range greats() {
		v, _ := lift.Int(s, x)
		rises(t, s, v, integer(x))
		rises(t, s, vec(t, s, v, v), vector(integer(x), integer(x)))
		rises(t, s, put(t, s, api.Big, bigSlots(x)...), integer(x))
	}
	for _, slots := range badBigs() {
		v := put(t, s, api.Big, slots...)
		rises(t, s, v, other("internal"))
		rises(t, s, chain(t, s, v, v, fix(1)), dotted(other("internal"), whole(1), other("internal")))
	}
}

// A symbol may have any name, and not all are those of a Symbol.
func TestUpSymbol(t *testing.T) {
	s := made(t, 0)
	for _, name := range []string{"a", "...", "+", "-", "->x", "a.b", "a#", "\u00E4", "null?", "1+"[1:], strings.Repeat("a", api.MaxName), strings.Repeat("\u00E4", api.MaxName/2), "\x00", "+-1", "\u0661"} {
		rises(t, s, named(t, s, name), sym(name))
	}
	for _, name := range []string{"1", "0", "-7", "+7", "12345678901234567890", "#t", "#f", "#true", "#false", "#", "#a", ".", "1+", "1a", "-1a", "+0x", "a b", " ", "a\n", "(", "a)", "\"", "a;", "'a", "`", ",", "a\tb", "a\r", "\xFF", "a\xC0\x80", "\xED\xA0\x80", strings.Repeat("a", api.MaxName-1) + " "} {
		rises(t, s, named(t, s, name), other("symbol"))
	}
}

func TestUpPairs(t *testing.T) {
	s := wide(t)
	a := named(t, s, "a")
	v := vec(t, s, a)
	l := chain(t, s, null, fix(1), fix(1))
	for _, c := range []struct {
		v    api.Value
		want api.Datum
	}{
		{chain(t, s, null, a), list(sym("a"))},
		{chain(t, s, l, a, a), list(sym("a"), sym("a"), whole(1), whole(1))},
		{chain(t, s, a, a), dotted(sym("a"), sym("a"))},
		{chain(t, s, a, l, a), dotted(list(whole(1), whole(1)), sym("a"), sym("a"))},
		{chain(t, s, v, v), dotted(vector(sym("a")), vector(sym("a")))},
		{chain(t, s, l, l), list(list(whole(1), whole(1)), whole(1), whole(1))},
		{chain(t, s, null, null), list(list())},
		{chain(t, s, null, null, null), list(list(), list())},
		{chain(t, s, chain(t, s, fix(2), a), a), dotted(sym("a"), sym("a"), whole(2))},
		{chain(t, s, value(api.TVoid, 0), a), dotted(sym("a"), leaf(api.Void, ""))},
		{chain(t, s, value(api.TUnset, 0), a), dotted(sym("a"), other("internal"))},
		{chain(t, s, put(t, s, api.Box, l), a), dotted(sym("a"), other("box"))},
		{chain(t, s, put(t, s, api.Str), a), dotted(sym("a"), str(""))},
		{chain(t, s, put(t, s, api.Vec), a), dotted(sym("a"), vector())},
		{chain(t, s, put(t, s, api.Frame, l, l), a), dotted(sym("a"), other("internal"))},
		{chain(t, s, null, value(api.TTrue, 0), chain(t, s, value(api.TFalse, 0), fix(1))), list(leaf(api.True, ""), dotted(whole(1), leaf(api.False, "")))},
	} {
		rises(t, s, c.v, c.want)
		rises(t, s, vec(t, s, c.v), vector(c.want))
	}
}

// What is in a Box, a Frame, or another object that no datum has, is not looked at.
func TestUpHidden(t *testing.T) {
	s := wide(t)
	ring := vec(t, s, null)
	set(t, s, ring, 0, ring)
	for _, c := range []struct {
		kind int
		want string
	}{{api.Box, "box"}, {api.Closure, "procedure"}, {api.Kont, "procedure"}, {api.Frame, "internal"}, {api.Multi, "internal"}, {api.Big, "internal"}} {
		rises(t, s, put(t, s, c.kind, ring), other(c.want))
		own := put(t, s, c.kind, null)
		set(t, s, own, 0, own)
		rises(t, s, own, other(c.want))
		if c.kind != api.Box {
			rises(t, s, put(t, s, c.kind, many(100000)...), other(c.want))
		}
	}
}

func TestUpUnsound(t *testing.T) {
	s := wide(t)
	named(t, s, "a")
	vec(t, s)
	for _, c := range []struct{ tag, n int }{
		{-1, 0}, {10, 0}, {math.MinInt, 0}, {math.MaxInt, 0}, {api.TNil, 1}, {api.TNil, -1}, {api.TTrue, 1}, {api.TFalse, 5}, {api.TVoid, -1}, {api.TUnset, 1},
		{api.TChar, -1}, {api.TChar, 0xD800}, {api.TChar, 0xDFFF}, {api.TChar, 0x110000}, {api.TChar, math.MaxInt}, {api.TSym, 1}, {api.TSym, -1}, {api.TSym, math.MinInt},
		{api.TObj, 1}, {api.TObj, -1}, {api.TObj, math.MaxInt}, {api.TPrim, -1}, {api.TPrim, 256}, {api.TPrim, math.MaxInt},
	} {
		stays(t, s, value(c.tag, c.n), api.ErrForm)
		stays(t, nil, value(c.tag, c.n), api.ErrForm)
	}
	for tag := range 10 {
		stays(t, nil, value(tag, 0), api.ErrForm)
	}
	empty := new(store.Store)
	stays(t, empty, obj(0), api.ErrForm)
	stays(t, empty, value(api.TSym, 0), api.ErrForm)
	rises(t, empty, fix(1), whole(1))
}

// A datum may be MaxDepth deep, whatever it is.
func TestUpDeep(t *testing.T) {
	for _, kind := range []int{api.Pair, api.Vec} {
		for _, top := range []int{api.Pair, api.Vec} {
			s := wide(t)
			for _, v := range []api.Value{null, fix(1), value(api.TVoid, 0), value(api.TPrim, 5), put(t, s, api.Vec), put(t, s, api.Str, chr('a')), put(t, s, api.Box, null), named(t, s, "a")} {
				inner, _ := lift.Up(s, v)
				deep := pile(t, s, kind, api.MaxDepth-2, v)
				group := map[int]int{api.Pair: api.List, api.Vec: api.Vector}
				want := nested(api.MaxDepth-2, group[kind], inner)
				rises(t, s, deep, want)
				deep = pile(t, s, top, 1, deep)
				rises(t, s, deep, nested(1, group[top], want))
				deep = pile(t, s, top, 1, deep)
				stays(t, s, deep, api.ErrDeep)
				stays(t, s, pile(t, s, kind, 1000, deep), api.ErrDeep)
			}
		}
	}
}

// Of Pairs what stands behind is no deeper than what stands ahead.
func TestUpDeepPlaces(t *testing.T) {
	s := wide(t)
	most := pile(t, s, api.Vec, api.MaxDepth-2, fix(1))
	want := nested(api.MaxDepth-2, api.Vector, whole(1))
	rises(t, s, chain(t, s, most, most, fix(1), most), dotted(want, whole(1), want, want))
	over := vec(t, s, most)
	for _, v := range []api.Value{chain(t, s, null, over), chain(t, s, null, fix(1), fix(1), over), chain(t, s, over, fix(1)), chain(t, s, over, many(5000)...), vec(t, s, fix(1), over)} {
		stays(t, s, v, api.ErrDeep)
	}
	rises(t, s, over, vector(want))
	leaf := pile(t, s, api.Pair, api.MaxDepth-1, null)
	rises(t, s, leaf, nested(api.MaxDepth-1, api.List, list()))
	rises(t, s, chain(t, s, pile(t, s, api.Pair, api.MaxDepth-1, null), null), list(append([]api.Datum{list()}, nested(api.MaxDepth-1, api.List, list()).List...)...))
	stays(t, s, put(t, s, api.Pair, leaf, null), api.ErrDeep)
}

// There may be MaxNodes of datums, however they stand in one another.
func TestUpNodes(t *testing.T) {
	s := wide(t)
	const n = api.MaxNodes - 1
	rises(t, s, vec(t, s, many(n)...), vector(ones(n)...))
	stays(t, s, vec(t, s, many(n+1)...), api.ErrLarge)
	stays(t, s, vec(t, s, many(100000)...), api.ErrLarge)
	rises(t, s, chain(t, s, null, many(n)...), list(ones(n)...))
	stays(t, s, chain(t, s, null, many(n+1)...), api.ErrLarge)
	stays(t, s, chain(t, s, null, many(100000)...), api.ErrLarge)
	rises(t, s, chain(t, s, fix(1), many(n-1)...), dotted(ones(n)...))
	stays(t, s, chain(t, s, fix(1), many(n)...), api.ErrLarge)

	half := vec(t, s, many(n/2)...)
	want := vector(ones(n / 2)...)
	rises(t, s, vec(t, s, half, chain(t, s, null, many(n/2-1)...)), vector(want, list(ones(n/2-1)...)))
	rises(t, s, vec(t, s, fix(1), chain(t, s, half, many(n/2-2)...)), vector(whole(1), dotted(append(ones(n/2-2), want)...)))
	for _, v := range []api.Value{vec(t, s, half, half), chain(t, s, null, half, half), chain(t, s, half, half), vec(t, s, half, chain(t, s, null, many(n/2)...)), vec(t, s, fix(1), chain(t, s, half, many(n/2-1)...)), vec(t, s, fix(1), fix(1), chain(t, s, half, many(n/2-2)...))} {
		stays(t, s, v, api.ErrLarge)
	}
	nulls := make([]api.Value, n)
	rises(t, s, chain(t, s, null, nulls...), list(slices.Repeat([]api.Datum{list()}, n)...))
	stays(t, s, chain(t, s, null, append(nulls, null)...), api.ErrLarge)
}

// An object that stands at several places counts at each.
func TestUpShared(t *testing.T) {
	s := wide(t)
	v, want := fix(1), whole(1)
	for range 12 {
		v, want = vec(t, s, v, v), vector(want, want)
	}
	rises(t, s, v, want) // 2 to the power 13, less 1: just MaxNodes less 1
	rises(t, s, vec(t, s, v), vector(want))
	stays(t, s, vec(t, s, v, fix(1)), api.ErrLarge)
	for range 30 {
		v = vec(t, s, v, v)
		stays(t, s, v, api.ErrLarge)
	}
	v = fix(1)
	for range 40 {
		v = put(t, s, api.Pair, v, v)
	}
	stays(t, s, v, api.ErrLarge)
}

func TestUpString(t *testing.T) {
	s := wide(t)
	most := chars(t, s, api.MaxString)
	want := str(strings.Repeat("\U0001F600", api.MaxString))
	rises(t, s, most, want)
	rises(t, s, vec(t, s, most, most), vector(want, want))
	for _, n := range []int{1, 2, 1000, 100000} {
		v := chars(t, s, api.MaxString+n)
		stays(t, s, v, api.ErrLarge)
		stays(t, s, chain(t, s, null, fix(1), v), api.ErrLarge)
		stays(t, s, chain(t, s, v, fix(1)), api.ErrLarge)
	}
	set(t, s, most, api.MaxString-1, null)
	stays(t, s, most, api.ErrLarge)
	for _, x := range []api.Value{null, fix(97), value(api.TTrue, 0), value(api.TPrim, 97), value(api.TUnset, 0), named(t, s, "a"), put(t, s, api.Str, chr('a')), most} {
		for i := range 3 {
			v := chars(t, s, 3)
			set(t, s, v, i, x)
			stays(t, s, v, api.ErrLarge)
			stays(t, s, vec(t, s, v), api.ErrLarge)
			stays(t, s, chain(t, s, null, put(t, s, api.Str), v), api.ErrLarge)
			stays(t, s, put(t, s, api.Str, v), api.ErrLarge)
			rises(t, s, put(t, s, api.Box, v), other("box"))
		}
	}
}

// The example, and what goes round in other ways.
func TestUpRound(t *testing.T) {
	s := wide(t)
	spine, first, both := put(t, s, api.Pair, fix(1), null), put(t, s, api.Pair, null, null), put(t, s, api.Pair, null, null)
	set(t, s, spine, 1, spine)
	stays(t, s, spine, api.ErrLarge)
	set(t, s, first, 0, first)
	stays(t, s, first, api.ErrDeep)
	set(t, s, both, 0, both)
	set(t, s, both, 1, both)
	stays(t, s, both, api.ErrDeep)

	ring := chain(t, s, spine, many(1000)...)
	stays(t, s, ring, api.ErrLarge)
	stays(t, s, vec(t, s, ring), api.ErrLarge)
	stays(t, s, pile(t, s, api.Vec, api.MaxDepth-2, spine), api.ErrLarge)
	stays(t, s, pile(t, s, api.Vec, api.MaxDepth-1, spine), api.ErrDeep)
	for n := range 4 {
		v := vec(t, s, many(n+1)...)
		set(t, s, v, n, v)
		stays(t, s, v, api.ErrDeep)
	}
	v := vec(t, s, many(1000)...) // 1000 at each depth: 8 times as many are more than may be
	set(t, s, v, 999, v)
	stays(t, s, v, api.ErrLarge)
	set(t, s, v, 0, v)
	stays(t, s, v, api.ErrDeep)
	for _, c := range []struct {
		ahead int
		want  api.Errno
	}{{0, api.ErrDeep}, {200, api.ErrDeep}, {300, api.ErrLarge}} { // two deeper each time that it comes round
		last := put(t, s, api.Pair, null, null)
		set(t, s, last, 0, chain(t, s, null, append(many(c.ahead), last)...))
		stays(t, s, last, c.want)
	}
}

// What is met first counts: a datum is met ahead of those in it, and these in order.
func TestUpOrder(t *testing.T) {
	s := wide(t)
	deep := pile(t, s, api.Vec, api.MaxDepth, fix(1))
	large := vec(t, s, many(api.MaxNodes)...)
	long, wrong := chars(t, s, api.MaxString+1), put(t, s, api.Str, fix(1))
	spine := put(t, s, api.Pair, fix(1), null)
	set(t, s, spine, 1, spine)
	larges := []api.Value{large, long, wrong, spine}
	for _, v := range larges {
		for _, c := range []struct {
			v    api.Value
			want api.Errno
		}{
			{vec(t, s, deep, v), api.ErrDeep}, {vec(t, s, v, deep), api.ErrLarge}, {chain(t, s, null, deep, v), api.ErrDeep}, {chain(t, s, null, v, deep), api.ErrLarge},
			{chain(t, s, v, deep), api.ErrDeep}, {chain(t, s, deep, v), api.ErrLarge},
			{vec(t, s, fix(1), vec(t, s, fix(1), v), deep), api.ErrLarge}, {vec(t, s, fix(1), vec(t, s, fix(1), deep), v), api.ErrDeep},
			{pile(t, s, api.Vec, api.MaxDepth-1, v), map[bool]api.Errno{true: api.ErrLarge, false: api.ErrDeep}[s.Kind(v) == api.Str]},
			{pile(t, s, api.Vec, api.MaxDepth, v), api.ErrDeep},
			{pile(t, s, api.Vec, api.MaxDepth-2, v), api.ErrLarge},
		} {
			stays(t, s, c.v, c.want)
		}
	}
	for _, more := range []int{0, 1, 2, 1000} { // with 0 the one that is too deep is the last one that may be, with 1 it is the one too many as well
		ahead := many(api.MaxNodes - 1 - api.MaxDepth + more)
		want := api.ErrDeep
		if more > 1 {
			want = api.ErrLarge
		}
		stays(t, s, vec(t, s, append(ahead, deep)...), want)
		stays(t, s, chain(t, s, null, append(ahead, deep)...), want)
		stays(t, s, chain(t, s, deep, ahead...), want)
	}
	stays(t, s, vec(t, s, append(many(api.MaxNodes-2), wrong, deep)...), api.ErrLarge)
}

// Up changes nothing, and what it answers is new each time.
func TestUpMemory(t *testing.T) {
	s := wide(t)
	x := greats()[0]
	d := vector(list(whole(5), integer(x)), list(whole(5), integer(x)), str("a"), dotted(sym("b"), vector(sym("b"))))
	v, _ := lift.Down(s, d)
	part, _ := s.Get(v, 0)
	set(t, s, v, 1, part)
	before := told(s)
	a, _ := lift.Up(s, v)
	b, _ := lift.Up(s, v)
	for i := range 2 {
		clear(a.List[i].List[0].Num.Limbs)
		clear(a.List[i].List[1].Num.Limbs)
		if i == 0 && !alike(a.List[1], d.List[1]) {
			t.Errorf("two lists of one answer share: %s", brief(a.List[1]))
		}
		clear(a.List[i].List)
	}
	clear(append(a.List[3].List, sym("z")))
	clear(a.List)
	if !alike(b, d) || told(s) != before {
		t.Errorf("%s; %.200s", brief(b), told(s))
	}
	rises(t, s, v, d)
}

// Up is that of the store that it is given, as it is by then.
func TestUpLater(t *testing.T) {
	s := wide(t)
	vec(t, s, many(10)...)
	v, _ := lift.Down(s, list(sym("a"), str("b"), vector(whole(lift.Fixes))))
	c := s.Copy()
	set(t, s, v, 0, fix(3))
	rises(t, s, v, list(whole(3), str("b"), vector(whole(lift.Fixes))))
	rises(t, c, v, list(sym("a"), str("b"), vector(whole(lift.Fixes))))
	roots, e := s.Collect(v)
	if e != api.OK {
		t.Fatalf("Collect: %d", e)
	}
	rises(t, s, roots[0], list(whole(3), str("b"), vector(whole(lift.Fixes))))
}

// What follows

// returns tells if d, which is sound and has no Other, goes down and comes up as the same, at 0.
func returns(t *testing.T, s *store.Store, d api.Datum) {
	t.Helper()
	v, e := lift.Down(s, d)
	if e != api.OK {
		t.Fatalf("Down of %s: %d", brief(d), e)
	}
	back, e := lift.Up(s, v)
	if e != api.OK || !read.Same(back, d) {
		t.Fatalf("%s came up as %s, %d", brief(d), brief(back), e)
	}
	rises(t, s, v, back)
	again, e := lift.Down(s, back)
	if e != api.OK || shown(s, again) != shown(s, v) {
		t.Fatalf("%s went down as %.200s, then as %.200s, %d", brief(d), shown(s, v), shown(s, again), e)
	}
}

func TestReturn(t *testing.T) {
	s := wide(t)
	for _, c := range lowereds() {
		returns(t, s, c.d)
		for _, d := range around(placed(c.d)) {
			if read.Sound(d) {
				returns(t, s, d)
			}
		}
	}
	for _, x := range greats() {
		returns(t, s, integer(x))
	}
	for _, n := range smalls() {
		returns(t, s, whole(n))
	}
	returns(t, s, str(strings.Repeat("\u20AC", api.MaxString)))
	returns(t, s, vector(slices.Repeat([]api.Datum{dotted(sym("a"), sym("b"))}, (api.MaxNodes-1)/3)...))
	returns(t, s, nested(api.MaxDepth-1, api.Vector, sym("a")))
	returns(t, s, nested(api.MaxDepth-1, api.List, str("a")))
}

// Every character comes back, alone and in a string.
func TestReturnCharacters(t *testing.T) {
	s := wide(t)
	var all []rune
	for c := rune(0); c <= 0x10FFFF; c++ {
		if c == 0xD800 {
			c = 0xE000
		}
		if c < 0x300 || c > 0xD700 && c < 0xE100 || c%97 == 0 || c&0xFFFE == 0xFFFE {
			returns(t, s, leaf(api.Char, string(c)))
			all = append(all, c)
		}
	}
	for part := range slices.Chunk(all, api.MaxString) {
		returns(t, s, str(string(part)))
	}
}

// A datum is printed as it was, behind it is come up.
func TestPrinted(t *testing.T) {
	s := wide(t)
	v := vec(t, s, chain(t, s, put(t, s, api.Box, null), put(t, s, api.Closure), value(api.TVoid, 0)), put(t, s, api.Str, chr('a')), put(t, s, api.Frame), syntax(t, s, api.Stx{}), named(t, s, "a b"), fix(-3))
	d, _ := lift.Up(s, v)
	want := `#((#<procedure> #<void> . #<box>) "a" #<internal> #<syntax> #<symbol> -3)`
	if text, e := print.Print(d); text != want || e != api.OK {
		t.Errorf("%s, %d, not %s", text, e, want)
	}
	if !alike(d.List[5], integer(num.Of(-3))) {
		t.Errorf("%s", brief(d.List[5]))
	}
}
