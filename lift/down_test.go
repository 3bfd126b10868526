package lift_test

import (
	"slices"
	"strings"
	"testing"

	"marginalia/api"
	"marginalia/lift"
	"marginalia/num"
	"marginalia/read"
	"marginalia/store"
)

// lowered is a datum, what its value is written out, and how many cells that takes.
type lowered struct {
	d     api.Datum
	want  string
	cells int
}

// lowereds have each kind, alone and in each other one.
func lowereds() []lowered {
	return []lowered{
		{list(), "0:0", 0},
		{leaf(api.True, ""), "1:0", 0},
		{leaf(api.False, ""), "2:0", 0},
		{leaf(api.Void, ""), "3:0", 0},
		{whole(0), "4:0", 0},
		{whole(-7), "4:-7", 0},
		{whole(lift.Fixes - 1), "4:999999999999999999", 0},
		{whole(1 - lift.Fixes), "4:-999999999999999999", 0},
		{whole(lift.Fixes), "{5 4:0 4:0 4:0 4:1}", 5},
		{whole(-lift.Fixes - 2), "{5 4:1 4:2 4:0 4:1}", 5},
		{leaf(api.Char, "a"), "5:97", 0},
		{leaf(api.Char, "\x00"), "5:0", 0},
		{leaf(api.Char, "\u00E4"), "5:228", 0},
		{leaf(api.Char, "\uFFFD"), "5:65533", 0},
		{leaf(api.Char, "\U0010FFFF"), "5:1114111", 0},
		{sym("a"), `"a"`, 0},
		{sym("+"), `"+"`, 0},
		{sym(strings.Repeat("\u00E4", api.MaxName/2)), `"` + strings.Repeat("\u00E4", api.MaxName/2) + `"`, 0},
		{str(""), "{4}", 1},
		{str("b"), "{4 5:98}", 2},
		{str("\u00E4\"\n\\\x00\U0001F600"), "{4 5:228 5:34 5:10 5:92 5:0 5:128512}", 7},
		{vector(), "{2}", 1},
		{vector(sym("a")), `{2 "a"}`, 2},
		{vector(whole(1), list(), leaf(api.True, ""), whole(1)), "{2 4:1 0:0 1:0 4:1}", 5},
		{list(whole(1)), "{1 4:1 0:0}", 3},
		{list(whole(1), whole(2)), "{1 4:1 {1 4:2 0:0}}", 6},
		{list(list()), "{1 0:0 0:0}", 3},
		{list(list(), list()), "{1 0:0 {1 0:0 0:0}}", 6},
		{list(leaf(api.False, ""), leaf(api.Void, "")), "{1 2:0 {1 3:0 0:0}}", 6},
		{dotted(whole(1), whole(2)), "{1 4:1 4:2}", 3},
		{dotted(whole(1), whole(2), whole(3)), "{1 4:1 {1 4:2 4:3}}", 6},
		{dotted(sym("a"), vector()), `{1 "a" {2}}`, 4},
		{dotted(list(), list(whole(1)), str("b")), "{1 0:0 {1 {1 4:1 0:0} {4 5:98}}}", 11},
		{dotted(dotted(whole(1), whole(2)), leaf(api.Void, "")), "{1 {1 4:1 4:2} 3:0}", 6},
		{list(sym("quote"), list(sym("b"), sym("a"), sym("b"))), `{1 "quote" {1 {1 "b" {1 "a" {1 "b" 0:0}}} 0:0}}`, 15},
		{vector(vector(vector()), list(vector()), dotted(vector(), vector())), "{2 {2 {2}} {1 {2} 0:0} {1 {2} {2}}}", 4 + 2 + 1 + 4 + 5},
		{list(str("x"), str("x"), whole(lift.Fixes), whole(lift.Fixes)), "{1 {4 5:120} {1 {4 5:120} {1 {5 4:0 4:0 4:0 4:1} {1 {5 4:0 4:0 4:0 4:1} 0:0}}}}", 12 + 4 + 10},
	}
}

// lowers holds what Down answers of d against what it should be, written out, and the room that it takes.
func lowers(t *testing.T, s *store.Store, d api.Datum, want string, cells int) {
	t.Helper()
	used := s.Used()
	v, e := lift.Down(s, d)
	if e != api.OK || !s.Sound(v) || shown(s, v) != want || s.Used() != used+cells {
		t.Errorf("Down of %s: %v, %d, %.200s, not %.200s; %d cells, not %d", brief(d), v, e, shown(s, v), want, s.Used()-used, cells)
	}
}

// refused tells if Down answers that error, and nothing.
func refused(t *testing.T, s *store.Store, d api.Datum, want api.Errno) {
	t.Helper()
	if v, e := lift.Down(s, d); v != null || e != want {
		t.Errorf("Down of %s: %v, %d, not error %d", brief(d), v, e, want)
	}
}

// P8.2

func TestDown(t *testing.T) {
	one := wide(t)
	for _, c := range lowereds() {
		lowers(t, one, c.d, c.want, c.cells)
		lowers(t, one, c.d, c.want, c.cells)
		lowers(t, wide(t), placed(c.d), c.want, c.cells)
		lowers(t, made(t, c.cells), c.d, c.want, c.cells)
	}
}

// With less room than it takes it is ErrFull, however little that is.
func TestDownFull(t *testing.T) {
	for _, c := range lowereds() {
		for cells := range c.cells {
			s := made(t, cells)
			refused(t, s, c.d, api.ErrFull)
			if s.Used() > cells {
				t.Errorf("%s: %d of %d cells", brief(c.d), s.Used(), cells)
			}
			s = made(t, c.cells+2)
			keep := put(t, s, api.Vec, make([]api.Value, c.cells+1-cells)...)
			refused(t, s, c.d, api.ErrFull)
			if shown(s, keep) != "{2"+strings.Repeat(" 0:0", c.cells+1-cells)+"}" {
				t.Errorf("%s: what was there is %s", brief(c.d), shown(s, keep))
			}
			if _, e := s.Collect(keep); e != api.OK || s.Used() != c.cells+2-cells {
				t.Errorf("%s: %d, %d used", brief(c.d), e, s.Used())
			}
		}
	}
	refused(t, new(store.Store), list(whole(1)), api.ErrFull)
	lowers(t, new(store.Store), sym("a"), `"a"`, 0)
}

// The limits of what is sound are those of what goes down.
func TestDownLimits(t *testing.T) {
	s := wide(t)
	lowers(t, s, nested(api.MaxDepth-1, api.List, whole(1)), strings.Repeat("{1 ", api.MaxDepth-1)+"4:1"+strings.Repeat(" 0:0}", api.MaxDepth-1), 3*(api.MaxDepth-1))
	lowers(t, s, nested(api.MaxDepth-1, api.Vector, list()), strings.Repeat("{2 ", api.MaxDepth-1)+"0:0"+strings.Repeat("}", api.MaxDepth-1), 2*(api.MaxDepth-1))
	refused(t, s, nested(api.MaxDepth, api.List, whole(1)), api.ErrForm)
	refused(t, s, nested(api.MaxDepth, api.Vector, list()), api.ErrForm)

	most := slices.Repeat([]api.Datum{whole(3)}, api.MaxNodes)
	lowers(t, s, list(most[1:]...), strings.Repeat("{1 4:3 ", api.MaxNodes-1)+"0:0"+strings.Repeat("}", api.MaxNodes-1), 3*(api.MaxNodes-1))
	lowers(t, s, vector(most[1:]...), "{2"+strings.Repeat(" 4:3", api.MaxNodes-1)+"}", api.MaxNodes)
	lowers(t, s, dotted(most[1:]...), strings.Repeat("{1 4:3 ", api.MaxNodes-2)+"4:3"+strings.Repeat("}", api.MaxNodes-2), 3*(api.MaxNodes-2))
	for _, kind := range []int{api.List, api.Dotted, api.Vector} {
		refused(t, s, group(kind, most...), api.ErrForm)
	}

	lowers(t, s, str(strings.Repeat("\U0010FFFF", api.MaxString)), "{4"+strings.Repeat(" 5:1114111", api.MaxString)+"}", api.MaxString+1)
	refused(t, s, str(strings.Repeat("a", api.MaxString+1)), api.ErrForm)
	refused(t, s, sym(strings.Repeat("a", api.MaxName+1)), api.ErrForm)

	x := greats()[9]
	lowers(t, s, list(integer(x)), "{1 {5 4:0"+strings.Repeat(" 4:999999999", api.MaxLimbs)+"} 0:0}", 3+2+api.MaxLimbs)
}

// bads are datums that are not sound.
func bads() []api.Datum {
	loop := list(whole(1))
	loop.List[0] = loop
	bad := []api.Datum{
		{}, leaf(-1, ""), leaf(12, ""), leaf(12, "a"), loop,
		sym(""), sym("1"), sym("-1"), sym("+2a"), sym("#t"), sym("#a"), sym("."), sym("a b"), sym("("), sym("a;"), sym("\xFF"),
		str("\xFF"), str("a\xC0\x80"), leaf(api.Char, ""), leaf(api.Char, "ab"), leaf(api.Char, "\xFF"), leaf(api.Char, "\xED\xA0\x80"),
		leaf(api.True, "a"), leaf(api.False, "#f"), leaf(api.Void, "void"), leaf(api.List, "a"), leaf(api.Vector, "a"), leaf(api.Integer, "0"),
		dotted(), dotted(whole(1)), dotted(whole(1), list()), dotted(whole(1), dotted(whole(2), whole(3))), dotted(whole(1), list(whole(2))),
		{Kind: api.Symbol, Text: "a", Num: num.Of(1)}, {Kind: api.String, Num: num.Of(1)}, {Kind: api.Char, Text: "a", List: list(whole(1)).List}, {Kind: api.True, Num: num.Of(1)},
		{Kind: api.List, Num: num.Of(1)}, {Kind: api.Vector, Num: limbs(true)}, {Kind: api.Integer, List: list(whole(1)).List}, {Kind: api.Void, List: list(whole(1)).List},
	}
	for _, x := range unsounds() {
		bad = append(bad, integer(x))
	}
	return bad
}

// others are Others that are sound, alone and in what is else.
func others() []api.Datum {
	var list []api.Datum
	for _, text := range []string{"", "box", "procedure", "syntax", "internal", "symbol", "\xFF"} {
		list = append(list, other(text))
	}
	return list
}

// around are groups with d in them, at each place.
func around(d api.Datum) []api.Datum {
	return []api.Datum{
		list(d), vector(d), list(d, sym("z")), list(sym("z"), d), list(sym("z"), d, str("x")), vector(str("x"), d), vector(d, d), dotted(d, sym("z")), dotted(sym("z"), d), dotted(sym("z"), d, sym("z")),
		list(list(d)), vector(list(sym("z"), vector(d))), dotted(sym("z"), vector(d)), dotted(list(sym("z"), d), sym("z")), nested(api.MaxDepth-2, api.Vector, d),
	}
}

// What is not sound is refused wherever it stands, and so is an Other; then nothing is made, no symbol either.
func TestDownForm(t *testing.T) {
	for _, d := range slices.Concat(bads(), others()) {
		for _, x := range append(around(d), d) {
			for _, cells := range []int{0, 1000} {
				s := made(t, cells)
				refused(t, s, x, api.ErrForm)
				if told(s) != told(made(t, cells)) {
					t.Errorf("%s: %s", brief(x), told(s))
				}
			}
			refused(t, nil, x, api.ErrForm)
		}
	}
	for _, c := range lowereds() {
		refused(t, nil, c.d, api.ErrForm)
	}
}

// Each object is one by itself: what is done to one is seen in no other, however alike they are.
func TestDownNew(t *testing.T) {
	s := wide(t)
	part := list(str("x"), vector(sym("a")), whole(lift.Fixes))
	d := vector(part, part, part.List[0], part.List[0], whole(lift.Fixes), whole(lift.Fixes), vector(sym("a")))
	v, _ := lift.Down(s, d)
	w, _ := lift.Down(s, d)
	seen := map[api.Value]int{}
	meet(s, v, seen)
	meet(s, w, seen)
	for x, n := range seen {
		if n != 1 {
			t.Errorf("%v stands at %d places", x, n)
		}
	}
	if want := 2 * (1 + 2*6 + 5); len(seen) != want {
		t.Errorf("%d objects, not %d", len(seen), want)
	}
}

// meet counts how often each object stands in v.
func meet(s *store.Store, v api.Value, seen map[api.Value]int) {
	if v.Tag != api.TObj {
		return
	}
	seen[v]++
	for _, x := range slotsOf(s, v) {
		meet(s, x, seen)
	}
}

// A name that is known already is the symbol that it was.
func TestDownSymbol(t *testing.T) {
	s := wide(t)
	b, a := named(t, s, "b"), named(t, s, "a")
	v, _ := lift.Down(s, list(sym("a"), sym("c"), sym("b"), sym("c")))
	c := named(t, s, "c")
	want := []api.Value{a, c, b, c}
	for i, x := range want {
		slots := slotsOf(s, v)
		if len(slots) != 2 || slots[0] != x {
			t.Fatalf("place %d: %v, not %v", i, slots, x)
		}
		v = slots[1]
	}
}

// What is handed in is neither changed, spare room included, nor kept.
func TestDownMemory(t *testing.T) {
	in := []api.Datum{sym("a"), str("b"), integer(limbs(false, 1, 2, 3)), vector(sym("c"), whole(5)), sym("d"), sym("e")}
	spare := in[3].List
	in[3].List = spare[:1]
	d := dotted(in[:5]...)
	before := placed(list(in...))
	s := wide(t)
	v, e := lift.Down(s, d)
	if e != api.OK || !alike(placed(list(in...)), before) || !alike(spare[1], whole(5)) {
		t.Errorf("what was handed in: %s, %d", brief(list(in...)), e)
	}
	want := shown(s, v)
	clear(in[2].Num.Limbs)
	clear(in[3].List)
	clear(in)
	if got := shown(s, v); got != want || got != `{1 "a" {1 {4 5:98} {1 {5 4:0 4:1 4:2 4:3} {1 {2 "c"} "d"}}}}` {
		t.Errorf("%s, not %s", got, want)
	}
}

// What texts are read as goes down as what it says.
func TestDownRead(t *testing.T) {
	for text, want := range map[string]string{
		"'a":                        `{1 "quote" {1 "a" 0:0}}`,
		"(a . (b c))":               `{1 "a" {1 "b" {1 "c" 0:0}}}`,
		"(a . #(b))":                `{1 "a" {2 "b"}}`,
		"#t":                        "1:0",
		`"\x41;"`:                   "{4 5:65}",
		`#\newline`:                 "5:10",
		"-1000000000000000000":      "{5 4:1 4:0 4:0 4:1}",
		"999999999999999999":        "4:999999999999999999",
		"(() #() . \"\")":           "{1 0:0 {1 {2} {4}}}",
		"#((1 . 2) #f)":             "{2 {1 4:1 4:2} 2:0}",
		"1000000000000000000000001": "{5 4:0 4:1 4:0 4:1000000}",
	} {
		datums, _, e := read.Read([]byte(text), api.MaxDepth)
		if e != api.OK || len(datums) != 1 {
			t.Fatalf("Read of %s: %d, %d", text, len(datums), e)
		}
		s := wide(t)
		v, e := lift.Down(s, datums[0])
		if e != api.OK || shown(s, v) != want {
			t.Errorf("%s: %s, %d, not %s", text, shown(s, v), e, want)
		}
	}
}
