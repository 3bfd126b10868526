package stx_test

import (
	"fmt"
	"math"
	"slices"
	"strings"
	"testing"

	"marginalia/api"
	"marginalia/num"
	"marginalia/read"
	"marginalia/stx"
	"marginalia/wrap"
)

// The pieces that tests hand in; in is what stands in one.

func leaf(kind int, text string) api.Stx { return api.Stx{Kind: kind, Text: text} }
func sym(text string) api.Stx            { return leaf(api.Symbol, text) }
func str(text string) api.Stx            { return leaf(api.String, text) }
func whole(n int) api.Stx                { return api.Stx{Kind: api.Integer, Num: num.Of(n)} }
func group(kind int, in ...api.Stx) api.Stx {
	return api.Stx{Kind: kind, List: in}
}
func list(in ...api.Stx) api.Stx   { return group(api.List, in...) }
func dotted(in ...api.Stx) api.Stx { return group(api.Dotted, in...) }
func vector(in ...api.Stx) api.Stx { return group(api.Vector, in...) }

// groups are the kinds in which pieces stand.
func groups() []int { return []int{api.List, api.Dotted, api.Vector} }

// leaves are sound leaves of each kind.
func leaves() []api.Stx {
	great := api.Stx{Kind: api.Integer, Num: api.Int{Neg: true, Limbs: []uint32{0, 7, api.Base - 1}}}
	return []api.Stx{sym("a"), sym("..."), str(""), str("\u00E4\n"), leaf(api.Char, "\U0001F600"), whole(0), whole(-5), great, leaf(api.True, ""), leaf(api.False, ""), leaf(api.Void, ""), list(), vector()}
}

// nested is x within n groups of that kind, and a symbol behind it in each.
func nested(n, kind int, x api.Stx) api.Stx {
	for range n {
		x = group(kind, x, sym("z"))
	}
	return x
}

// The wraps that tests hand in.

func of(marks, subs []int) wrap.Wrap { return wrap.Wrap{Marks: marks, Subs: subs} }
func ints(n ...int) []int            { return n }

// marked is a wrap of n marks, from first on; ribbed one of n ribs.
func marked(n, first int) wrap.Wrap {
	w := wrap.Wrap{Subs: slices.Repeat(ints(api.Shift), n)}
	for i := range n {
		w.Marks = append(w.Marks, first+i)
	}
	return w
}
func ribbed(n, first int) wrap.Wrap { return of(nil, marked(n, first).Marks) }

// in is x with w in the place of its wrap.
func in(w wrap.Wrap, x api.Stx) api.Stx {
	x.Marks, x.Subs = w.Marks, w.Subs
	return x
}

// worn is x's own wrap.
func worn(x api.Stx) wrap.Wrap { return of(x.Marks, x.Subs) }

// placed is x with memory of its own, each piece in it standing somewhere else.
func placed(x api.Stx) api.Stx {
	at := 0
	return stood(x, &at)
}

func stood(x api.Stx, at *int) api.Stx {
	*at += 3
	x.At = *at
	x.Num.Limbs, x.Marks, x.Subs = slices.Clone(x.Num.Limbs), slices.Clone(x.Marks), slices.Clone(x.Subs)
	x.List = slices.Clone(x.List)
	for i := range x.List {
		x.List[i] = stood(x.List[i], at)
	}
	return x
}

// identical tells if both are the same in all, places among it.
func identical(a, b api.Stx) bool {
	return a.At == b.At && a.Kind == b.Kind && a.Text == b.Text && a.Num.Neg == b.Num.Neg && slices.Equal(a.Num.Limbs, b.Num.Limbs) &&
		wrap.Same(worn(a), worn(b)) && slices.EqualFunc(a.List, b.List, identical)
}

// stripped is x's datum, sound or not.
func stripped(x api.Stx) api.Datum {
	d := api.Datum{Kind: x.Kind, Text: x.Text, Num: x.Num, At: x.At}
	for _, in := range x.List {
		d.List = append(d.List, stripped(in))
	}
	return d
}

// alike tells if both datums are the same, places among it.
func alike(a, b api.Datum) bool {
	return a.At == b.At && a.Kind == b.Kind && a.Text == b.Text && a.Num.Neg == b.Num.Neg && slices.Equal(a.Num.Limbs, b.Num.Limbs) && slices.EqualFunc(a.List, b.List, alike)
}

// brief is what tests tell of pieces, datums and other things: not much of what stands in one, which may have no end.
func brief(all ...any) string {
	var texts []string
	for _, x := range all {
		switch x := x.(type) {
		case api.Stx:
			left := 12
			texts = append(texts, told(x, &left))
		case api.Datum:
			texts = append(texts, fmt.Sprintf("datum kind %d %.40q at %d with %d in it", x.Kind, x.Text, x.At, len(x.List)))
		default:
			text := fmt.Sprint(x)
			texts = append(texts, text[:min(len(text), 100)])
		}
	}
	return strings.Join(texts, " ")
}

// told is x in short; left counts down how many pieces are told.
func told(x api.Stx, left *int) string {
	text := fmt.Sprintf("{%d %.20q", x.Kind, x.Text)
	if x.Num.Neg || len(x.Num.Limbs) > 0 {
		text += fmt.Sprintf(" %v/%d limbs", x.Num.Neg, len(x.Num.Limbs))
	}
	if len(x.Marks)+len(x.Subs) > 0 {
		text += fmt.Sprintf(" %v/%d %v/%d", x.Marks[:min(len(x.Marks), 6)], len(x.Marks), x.Subs[:min(len(x.Subs), 6)], len(x.Subs))
	}
	for _, in := range x.List {
		if *left--; *left < 0 {
			return text + " ..}"
		}
		text += " " + told(in, left)
	}
	return text + "}"
}

// nothing tells if x is its zero value.
func nothing(x api.Stx) bool { return identical(x, api.Stx{}) }

// comes holds what a call answered against what it should.
func comes(t *testing.T, call string, got api.Stx, e api.Errno, want api.Stx) {
	t.Helper()
	if e != api.OK || !identical(got, want) {
		t.Errorf("%s: %s, %d, not %s", call, brief(got), e, brief(want))
	}
}

// refused tells if a call answered that error, and nothing.
func refused(t *testing.T, call string, got api.Stx, e, want api.Errno) {
	t.Helper()
	if e != want || !nothing(got) {
		t.Errorf("%s: %s, %d, not error %d", call, brief(got), e, want)
	}
}

// The calls, each with its answer held against what it should be.

func makes(t *testing.T, d api.Datum, w wrap.Wrap, want api.Stx) {
	t.Helper()
	got, e := stx.Of(d, w)
	comes(t, brief("Of ", d, w), got, e, want)
}
func strips(t *testing.T, x api.Stx, want api.Datum) {
	t.Helper()
	if got, e := stx.Strip(x); e != api.OK || !alike(got, want) {
		t.Errorf("Strip of %s: %s, %d, not %s", brief(x), brief(got), e, brief(want))
	}
}
func pushes(t *testing.T, x api.Stx, w wrap.Wrap, want api.Stx) {
	t.Helper()
	got, e := stx.Push(x, w)
	comes(t, brief("Push of ", x, " by ", w), got, e, want)
}
func pushless(t *testing.T, x api.Stx, w wrap.Wrap, want api.Errno) {
	t.Helper()
	got, e := stx.Push(x, w)
	refused(t, brief("Push of ", x, " by ", w), got, e, want)
}
func opens(t *testing.T, x, want api.Stx) {
	t.Helper()
	got, e := stx.Open(x)
	comes(t, brief("Open of ", x), got, e, want)
}
func flats(t *testing.T, x, want api.Stx) {
	t.Helper()
	got, e := stx.Flat(x)
	comes(t, brief("Flat of ", x), got, e, want)
}
func same(t *testing.T, a, b api.Stx, want bool) {
	t.Helper()
	if stx.Same(a, b) != want || stx.Same(b, a) != want {
		t.Errorf("Same of %s and %s: not %v", brief(a), brief(b), want)
	}
}

// sound holds x against each call that asks if it is sound.
func sound(t *testing.T, want bool, x api.Stx) {
	t.Helper()
	if stx.Sound(x) != want {
		t.Fatalf("Sound of %s: not %v", brief(x), want)
	}
	if stx.Same(x, x) != want || stx.Ident(x) != (want && x.Kind == api.Symbol) {
		t.Errorf("Same or Ident of %s, which is sound: %v", brief(x), want)
	}
	if want {
		return
	}
	same(t, x, sym("a"), false)
	if d, e := stx.Strip(x); e != api.ErrForm || !alike(d, api.Datum{}) {
		t.Errorf("Strip of %s: %s, %d", brief(x), brief(d), e)
	}
	for _, w := range []wrap.Wrap{{}, wrap.Mark(5), wrap.Rib(2), of(ints(0), ints(0)), marked(api.MaxWrap, 1)} {
		pushless(t, x, w, api.ErrForm)
	}
	got, e := stx.Open(x)
	refused(t, brief("Open of ", x), got, e, api.ErrForm)
	got, e = stx.Flat(x)
	refused(t, brief("Flat of ", x), got, e, api.ErrForm)
}

// The chapter's example.
func TestExample(t *testing.T) {
	x := in(wrap.Mark(5), list(sym("a"), sym("b")))
	opens(t, x, list(in(wrap.Mark(5), sym("a")), in(wrap.Mark(5), sym("b"))))
	strips(t, x, stripped(list(sym("a"), sym("b"))))
}

// The chapter's words

// bads are pieces of which none is sound, for something in its datum.
func bads() []api.Stx {
	all := []api.Stx{
		{}, {Kind: -1}, {Kind: 12}, {Kind: math.MaxInt}, {Kind: math.MinInt}, leaf(api.Other, ""), leaf(api.Other, "box"),
		sym(""), sym("1"), sym("a b"), sym("."), sym("#t"), sym("\xFF"), sym(strings.Repeat("a", api.MaxName+1)), str("\xFF"), str(strings.Repeat("a", api.MaxString+1)),
		leaf(api.Char, ""), leaf(api.Char, "ab"), leaf(api.Char, "\xFF"), leaf(api.True, "a"), leaf(api.False, "a"), leaf(api.Void, "a"), leaf(api.List, "a"), leaf(api.Vector, "a"),
		dotted(), dotted(sym("a")), dotted(sym("a"), list()), dotted(sym("a"), dotted(sym("a"), sym("b"))),
		{Kind: api.Integer, Text: "1"}, {Kind: api.Integer, Num: api.Int{Neg: true}}, {Kind: api.Integer, Num: api.Int{Limbs: []uint32{1, 0}}}, {Kind: api.Integer, Num: api.Int{Limbs: []uint32{api.Base}}},
		{Kind: api.Integer, Num: api.Int{Limbs: slices.Repeat([]uint32{1}, api.MaxLimbs+1)}}, {Kind: api.Integer, Num: api.Int{Limbs: slices.Repeat([]uint32{1}, 1<<20)}},
	}
	for _, x := range leaves() {
		if x.Kind != api.Integer {
			x.Num = num.Of(1)
			all = append(all, x)
			x.Num = api.Int{Neg: true}
			all = append(all, x)
			x.Num = api.Int{}
		}
		if !stx.Compound(x) {
			x.List = []api.Stx{sym("a")}
			all = append(all, x)
			x.List = []api.Stx{{}}
			all = append(all, x)
		}
	}
	return all
}

func TestSoundDatum(t *testing.T) {
	for _, x := range leaves() {
		sound(t, true, x)
		for _, kind := range groups() {
			sound(t, true, group(kind, x, x, sym("a")))
			sound(t, true, list(group(kind, sym("a"), vector(x), sym("b"))))
		}
	}
	for _, x := range bads() {
		sound(t, false, x)
		sound(t, false, in(wrap.Mark(5), x))
		for _, kind := range groups() {
			for at := range 3 {
				three := []api.Stx{sym("a"), sym("b"), sym("c")}
				three[at] = x
				sound(t, false, group(kind, three...))
				sound(t, false, vector(sym("a"), list(group(kind, three...)), sym("b")))
			}
		}
	}
	sound(t, true, sym(strings.Repeat("a", api.MaxName)))
	sound(t, true, str(strings.Repeat("\u20AC", api.MaxString)))
	sound(t, true, api.Stx{Kind: api.Integer, Num: api.Int{Limbs: slices.Repeat([]uint32{1}, api.MaxLimbs)}})
	sound(t, true, api.Stx{Kind: api.Symbol, Text: "a", Num: api.Int{Limbs: []uint32{}}, List: []api.Stx{}, At: -7, Marks: []int{}, Subs: []int{}})
}

func TestSoundLimits(t *testing.T) {
	for _, kind := range groups() {
		for deep := api.MaxDepth - 1; deep < api.MaxDepth+3; deep++ {
			for _, x := range leaves() {
				sound(t, deep < api.MaxDepth, nested(deep, kind, x))
			}
		}
		for _, count := range []int{api.MaxNodes - 1, api.MaxNodes, 2 * api.MaxNodes} {
			many := slices.Repeat([]api.Stx{sym("a")}, count)
			sound(t, count < api.MaxNodes, group(kind, many...))
			sound(t, count < api.MaxNodes, list(group(kind, many[:4]...), group(kind, many[6:]...)))
			sound(t, count+1 < api.MaxNodes, list(group(kind, many[:4]...), group(kind, many[5:]...)))
		}
	}
	sound(t, false, nested(1<<15, api.List, sym("a")))
	sound(t, false, vector(make([]api.Stx, 1<<20)...))
	x := list()
	for range 62 {
		x = list(x, x)
	}
	sound(t, false, x)
	limbs := api.Stx{Kind: api.Integer, Num: api.Int{Limbs: slices.Repeat([]uint32{1}, 1<<22)}}
	sound(t, false, list(slices.Repeat([]api.Stx{limbs}, 8000)...))
}

// Pieces that stand in themselves have no end.
func TestRound(t *testing.T) {
	for _, kind := range append(groups(), api.Symbol, 0) {
		one := group(kind, sym("a"), sym("b"))
		one.List[0] = one
		sound(t, false, one)
		two := group(kind, sym("a"), sym("b"), sym("c"))
		two.List[1], two.List[2] = two, two
		sound(t, false, in(wrap.Mark(5), two))
		sound(t, false, list(sym("a"), two))
		if stx.Same(one, two) || stx.Same(one, one) {
			t.Errorf("kind %d", kind)
		}
	}
	d := api.Datum{Kind: api.List, List: make([]api.Datum, 1)}
	d.List[0] = d
	got, e := stx.Of(d, wrap.Wrap{})
	refused(t, "Of what stands in itself", got, e, api.ErrForm)
}

// wrong are wraps of which none is sound.
func wrong() []wrap.Wrap {
	return []wrap.Wrap{
		of(ints(0), ints(0)), of(ints(-2), ints(0)), of(ints(5, -1), ints(0, 0)), of(ints(5), nil), of(nil, ints(0)), of(ints(5), ints(2)), of(nil, ints(-1)), of(nil, ints(math.MinInt)),
		marked(api.MaxWrap+1, 1), ribbed(api.MaxWrap+1, 1),
	}
}

// A wrap that is not sound may stand nowhere, also where it would mean nothing.
func TestSoundWraps(t *testing.T) {
	for _, w := range []wrap.Wrap{{}, wrap.Mark(5), wrap.Mark(api.Anti), wrap.Rib(2), of(ints(-1, 5), ints(2, 0, 3, 0)), marked(api.MaxWrap, 1), ribbed(api.MaxWrap, 1)} {
		for _, x := range leaves() {
			sound(t, true, in(w, x))
			sound(t, true, list(sym("a"), dotted(list(in(w, x)), sym("b"))))
			sound(t, true, in(w, list(sym("a"), vector(x))))
			sound(t, true, list(in(w, list(x)), in(w, vector(x)), in(w, x))) // those beside one another are not joined
		}
	}
	for _, w := range wrong() {
		for _, x := range leaves() {
			sound(t, false, in(w, x))
			for _, kind := range groups() {
				sound(t, false, in(w, group(kind, x, sym("a"))))
				for at := range 3 {
					three := []api.Stx{sym("a"), x, sym("b")}
					three[at] = in(w, three[at])
					sound(t, false, group(kind, three...))
					sound(t, false, list(sym("a"), vector(group(kind, three...)), sym("a")))
				}
			}
		}
	}
}

// What the wraps come to has to be sound in each step, from the outermost one on.
func TestSoundJoined(t *testing.T) {
	five, anti := wrap.Mark(5), wrap.Mark(api.Anti)
	for _, x := range leaves() {
		for _, kind := range groups() {
			chain := func(ws ...wrap.Wrap) api.Stx {
				y := in(ws[len(ws)-1], x)
				for i := len(ws) - 2; i >= 0; i-- {
					y = in(ws[i], group(kind, sym("a"), y, sym("b")))
				}
				return y
			}
			for n := range api.MaxWrap + 1 {
				sound(t, true, chain(marked(n, 1), ribbed(api.MaxWrap-n, 1)))
				sound(t, n == 0, chain(ribbed(n, 1), marked(api.MaxWrap-n, 1), wrap.Wrap{}, marked(min(n, 1), 1)))
			}
			sound(t, true, chain(marked(200, 1), wrap.Wrap{}, wrap.Wrap{}, marked(56, 1)))
			sound(t, false, chain(marked(200, 1), wrap.Wrap{}, wrap.Wrap{}, marked(57, 1)))
			sound(t, true, chain(marked(256, 1), anti, wrap.Rib(2)))
			sound(t, false, chain(marked(256, 1), wrap.Rib(2), anti))
			sound(t, false, chain(marked(256, 1), anti, wrap.Rib(2), wrap.Rib(2)))
			sound(t, true, chain(five, anti))
			sound(t, true, chain(five, wrap.Wrap{}, anti))
			sound(t, true, chain(wrap.Rib(2), anti))
			sound(t, true, chain(anti, wrap.Rib(2), five))
			sound(t, false, chain(anti, anti))
			sound(t, false, chain(five, wrap.Rib(2), anti))
			sound(t, false, chain(five, of(ints(-1), ints(2, 0))))
			sound(t, false, chain(five, anti, wrap.Rib(2), anti, anti))
			sound(t, true, chain(marked(2, 5), anti, anti)) // the last two are not sound without what is around
			sound(t, true, chain(marked(2, 5), anti, anti, anti))
			sound(t, false, chain(marked(2, 5), anti, anti, anti, anti))
		}
	}
}

// P10.1

// datums are sound ones without an Other.
func datums(t *testing.T) []api.Datum {
	text := "a (b . #(c \"d\" ())) #\\e (f (g (h . i) -70000000000000000000) #t) #f #() (() 'j . #(k))"
	all, _, e := read.Read([]byte(text), api.MaxDepth)
	if e != api.OK {
		t.Fatalf("%q: %d", text, e)
	}
	return append(all, api.Datum{Kind: api.Void, At: 5}, api.Datum{Kind: api.List, At: -3, List: []api.Datum{{Kind: api.Void}}})
}

// bare is d without any wrap.
func bare(d api.Datum) api.Stx {
	x := api.Stx{Kind: d.Kind, Text: d.Text, Num: d.Num, At: d.At}
	for _, in := range d.List {
		x.List = append(x.List, bare(in))
	}
	return x
}

func TestOf(t *testing.T) {
	goods := []wrap.Wrap{{}, wrap.Mark(5), wrap.Mark(api.Anti), wrap.Rib(2), of(ints(-1, 5), ints(2, 0, 3, 0)), marked(api.MaxWrap, 1), of(ints(), ints())}
	other := api.Datum{Kind: api.Other, Text: "box"}
	for _, d := range datums(t) {
		for _, w := range goods {
			makes(t, d, w, in(w, bare(d)))
			strips(t, in(w, bare(d)), d)
			got, e := stx.Of(api.Datum{Kind: api.List, List: []api.Datum{d, other}}, w)
			refused(t, "Of what has an Other", got, e, api.ErrForm)
		}
		for _, w := range wrong() {
			got, e := stx.Of(d, w)
			refused(t, brief("Of by ", w), got, e, api.ErrForm)
		}
	}
	for _, x := range bads() {
		for _, w := range append(goods, wrong()...) {
			got, e := stx.Of(stripped(x), w)
			refused(t, brief("Of ", x), got, e, api.ErrForm)
			got, e = stx.Of(stripped(vector(dotted(x, sym("a")))), w)
			refused(t, brief("Of what has in it ", x), got, e, api.ErrForm)
		}
	}
	for _, deep := range []int{api.MaxDepth - 1, api.MaxDepth, 1 << 15} {
		if _, e := stx.Of(stripped(nested(deep, api.List, sym("a"))), wrap.Wrap{}); (e == api.OK) != (deep < api.MaxDepth) || e != api.OK && e != api.ErrForm {
			t.Errorf("Of %d deep: %d", deep+1, e)
		}
	}
	for _, count := range []int{api.MaxNodes - 1, api.MaxNodes} {
		if _, e := stx.Of(stripped(vector(slices.Repeat([]api.Stx{sym("a")}, count)...)), wrap.Wrap{}); (e == api.OK) != (count < api.MaxNodes) {
			t.Errorf("Of %d: %d", count+1, e)
		}
	}
}

// Strip leaves out all wraps, wherever they stand, and keeps the places.
func TestStrip(t *testing.T) {
	five := wrap.Mark(5)
	for _, x := range leaves() {
		y := placed(in(five, dotted(in(five, x), vector(in(wrap.Rib(3), sym("a")), in(five, list(x))), in(five, sym("b")))))
		strips(t, y, stripped(y))
		strips(t, in(five, x), stripped(x))
	}
}

// P10.2

func TestPush(t *testing.T) {
	five, anti, rib := wrap.Mark(5), wrap.Mark(api.Anti), wrap.Rib(2)
	for _, x := range leaves() {
		x = placed(x)
		pushes(t, x, wrap.Wrap{}, x)
		pushes(t, x, five, in(five, x))
		pushes(t, in(five, x), rib, in(of(ints(5), ints(2, 0)), x))
		pushes(t, in(rib, x), five, in(of(ints(5), ints(0, 2)), x))
		pushes(t, in(five, x), wrap.Mark(6), in(of(ints(6, 5), ints(0, 0)), x))
		pushes(t, in(anti, x), five, x)
		pushes(t, in(of(ints(-1, 7), ints(0, 3, 0)), x), of(ints(6, 5), ints(0, 2, 0)), in(of(ints(6, 7), ints(0, 2, 3, 0)), x))
		for _, kind := range groups() { // what stands in it stays as it is
			y := placed(in(rib, group(kind, in(five, x), in(wrap.Rib(3), sym("a")))))
			pushes(t, y, five, in(of(ints(5), ints(0, 2)), y))
			y = placed(group(kind, in(anti, x), sym("a")))
			pushes(t, y, five, in(five, y))
			y = placed(in(five, group(kind, in(anti, x), sym("a"))))
			pushes(t, y, wrap.Mark(6), in(of(ints(6, 5), ints(0, 0)), y))
		}
	}
}

// Join's errors go ahead of that of the whole, and ErrForm of what is handed in goes ahead of them.
func TestPushErrors(t *testing.T) {
	anti, full := wrap.Mark(api.Anti), marked(api.MaxWrap, 1)
	for _, x := range leaves() {
		for _, w := range wrong() {
			pushless(t, x, w, api.ErrForm)
			pushless(t, in(full, x), w, api.ErrForm)
			pushless(t, in(anti, x), w, api.ErrForm)
		}
		pushless(t, in(full, x), wrap.Mark(5), api.ErrLarge)
		pushless(t, in(full, x), wrap.Rib(5), api.ErrLarge)
		pushless(t, in(ribbed(api.MaxWrap, 1), x), wrap.Rib(5), api.ErrLarge)
		pushless(t, in(anti, x), anti, api.ErrForm)
		pushless(t, in(anti, x), of(ints(5), ints(0, 2)), api.ErrForm)
		pushless(t, in(of(ints(-1), ints(2, 0)), x), wrap.Mark(5), api.ErrForm)
		pushes(t, in(anti, x), full, in(marked(api.MaxWrap-1, 1), x))
		for _, kind := range groups() {
			for at := range 3 {
				put := func(w wrap.Wrap) api.Stx {
					three := []api.Stx{sym("a"), x, sym("b")}
					three[at] = in(w, three[at])
					return placed(group(kind, three...))
				}
				y := put(marked(api.MaxWrap-1, 1))
				pushes(t, y, wrap.Mark(5), in(wrap.Mark(5), y))
				pushes(t, list(y), wrap.Rib(5), in(wrap.Rib(5), list(y)))
				pushless(t, y, marked(2, 5), api.ErrLarge)
				pushless(t, list(y), marked(2, 5), api.ErrLarge)
				pushless(t, in(wrap.Rib(3), list(y)), wrap.Rib(5), api.ErrLarge)
				y = put(anti)
				pushless(t, y, anti, api.ErrLarge)
				pushless(t, vector(y), of(ints(5), ints(0, 2)), api.ErrLarge)
				pushless(t, in(anti, y), anti, api.ErrForm) // not sound by itself
				pushless(t, in(full, vector(y)), wrap.Mark(5), api.ErrLarge)
			}
		}
	}
	pushless(t, in(anti, list(in(marked(api.MaxWrap-1, 1), sym("a")))), anti, api.ErrForm)
}

func TestOpen(t *testing.T) {
	five, anti, rib := wrap.Mark(5), wrap.Mark(api.Anti), wrap.Rib(2)
	for _, x := range leaves() {
		if !stx.Compound(x) {
			opens(t, placed(in(five, x)), placed(in(five, x))) // a leaf stays as it is
		} else {
			opens(t, placed(in(five, x)), placed(x))
		}
		opens(t, placed(x), placed(x))
		for _, kind := range groups() {
			opens(t, placed(in(five, group(kind, in(rib, x), x, in(anti, sym("a"))))),
				placed(group(kind, in(of(ints(5), ints(0, 2)), x), in(five, x), sym("a"))))
			opens(t, placed(in(of(ints(-1), ints(2, 0)), group(kind, in(wrap.Mark(6), vector(in(rib, x), x)), sym("a")))),
				placed(group(kind, in(of(ints(-1, 6), ints(2, 0, 0)), vector(in(rib, x), x)), in(of(ints(-1), ints(2, 0)), sym("a")))))
			opens(t, placed(group(kind, in(five, list(in(anti, x))), sym("a"))), placed(group(kind, in(five, list(in(anti, x))), sym("a"))))
			opens(t, placed(in(marked(2, 5), group(kind, in(anti, list(in(anti, x))), sym("a")))),
				placed(group(kind, in(five, list(in(anti, x))), in(marked(2, 5), sym("a"))))) // what stands in it is not sound by itself
			opens(t, placed(in(marked(200, 1), group(kind, in(ribbed(56, 1), x), in(anti, x), sym("a")))),
				placed(group(kind, in(of(marked(200, 1).Marks, append(marked(200, 1).Subs, ribbed(56, 1).Subs...)), x), in(marked(199, 1), x), in(marked(200, 1), sym("a")))))
		}
	}
}

func TestFlat(t *testing.T) {
	five, anti, rib := wrap.Mark(5), wrap.Mark(api.Anti), wrap.Rib(2)
	for _, x := range leaves() {
		left := func(w wrap.Wrap) api.Stx {
			if x.Kind != api.Symbol {
				return x
			}
			return in(w, x)
		}
		flats(t, placed(x), placed(x))
		flats(t, placed(in(five, x)), placed(left(five)))
		for _, kind := range groups() {
			flats(t, placed(in(five, group(kind, in(rib, x), list(x, in(anti, x)), in(anti, sym("a"))))),
				placed(group(kind, left(of(ints(5), ints(0, 2))), list(left(five), left(wrap.Wrap{})), sym("a"))))
			flats(t, placed(in(marked(2, 5), group(kind, in(anti, list(in(anti, vector(in(rib, x))))), sym("a")))),
				placed(group(kind, list(vector(left(rib))), in(marked(2, 5), sym("a")))))
			flats(t, placed(in(marked(200, 1), group(kind, in(anti, x), vector(in(rib, x)), sym("a")))),
				placed(group(kind, left(marked(199, 1)), vector(left(of(marked(200, 1).Marks, append(marked(200, 1).Subs, 2)))), in(marked(200, 1), sym("a")))))
		}
	}
}

// P10.3

func TestSame(t *testing.T) {
	five, anti, rib := wrap.Mark(5), wrap.Mark(api.Anti), wrap.Rib(2)
	all := append(leaves(), sym("b"), str("a"), leaf(api.Char, "a"), whole(5), whole(1<<40), list(sym("a")), vector(sym("a")), list(sym("a"), sym("b")), dotted(sym("a"), sym("b")), list(list(sym("a"))), list(sym("b"), sym("a")))
	for i, x := range all {
		for j, y := range all {
			same(t, x, placed(y), i == j)
			same(t, list(sym("z"), x), placed(list(sym("z"), y)), i == j)
			same(t, in(five, dotted(x, sym("z"))), in(five, dotted(placed(y), sym("z"))), i == j)
		}
	}
	for _, x := range leaves() {
		symbol := x.Kind == api.Symbol
		for _, pair := range [][2]api.Stx{{x, in(five, x)}, {in(wrap.Mark(6), x), in(five, x)}, {in(rib, x), in(wrap.Rib(3), x)}, {in(of(ints(5), ints(0, 2)), x), in(of(ints(5), ints(2, 0)), x)}, {in(five, list(x)), list(x)}, {in(five, list(list(), x)), list(in(five, list()), x)}} {
			for _, kind := range groups() { // at Symbols alone wraps mean something
				same(t, pair[0], pair[1], !symbol)
				same(t, group(kind, sym("a"), pair[0], sym("b")), group(kind, sym("a"), pair[1], sym("b")), !symbol)
				same(t, vector(group(kind, pair[0], sym("b"))), vector(group(kind, pair[1], sym("b"))), !symbol)
			}
		}
		for _, kind := range groups() { // it does not count at which of the pieces around they stand
			whole := in(five, group(kind, in(rib, x), list(x), in(anti, sym("a"))))
			parted := group(kind, in(of(ints(5), ints(0, 2)), x), in(five, list(x)), sym("a"))
			flat := group(kind, in(of(ints(5), ints(0, 2)), x), list(in(five, x)), in(wrap.Wrap{}, sym("a")))
			same(t, whole, placed(parted), true)
			same(t, whole, placed(flat), true)
			same(t, parted, flat, true)
		}
	}
	if stx.Same(api.Stx{}, api.Stx{}) || stx.Same(leaf(api.Other, "box"), leaf(api.Other, "box")) {
		t.Error("what is not sound is the same")
	}
}

func TestKinds(t *testing.T) {
	for kind := -1; kind < 14; kind++ {
		compound := kind == api.List || kind == api.Dotted || kind == api.Vector
		for _, x := range []api.Stx{{Kind: kind}, {Kind: kind, Text: "a"}, group(kind, sym("a"), sym("b")), {Kind: kind, Num: num.Of(5), Marks: ints(0)}} {
			if stx.Compound(x) != compound {
				t.Errorf("Compound of %s: not %v", brief(x), compound)
			}
		}
		if stx.Ident(in(wrap.Mark(5), leaf(kind, "a"))) != (kind == api.Symbol) {
			t.Errorf("Ident of kind %d", kind)
		}
	}
	for _, kind := range []int{math.MinInt, math.MaxInt} {
		if x := leaf(kind, "a"); stx.Compound(x) || stx.Ident(x) {
			t.Errorf("kind %d", kind)
		}
	}
	for _, x := range []api.Stx{sym("1"), sym(""), group(api.Symbol, sym("a")), in(of(ints(5), nil), sym("a")), {Kind: api.Symbol, Text: "a", Num: num.Of(1)}} {
		if stx.Ident(x) {
			t.Errorf("Ident of %s", brief(x))
		}
	}
}
