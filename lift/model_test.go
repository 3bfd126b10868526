package lift_test

import (
	"fmt"
	"math/big"
	"slices"
	"strings"
	"testing"
	"unicode/utf8"

	"marginalia/api"
	"marginalia/lift"
	"marginalia/num"
	"marginalia/read"
	"marginalia/store"
)

// parts are the values whose datums stand in v's, and the kind of that; 0, if none can stand in it.
func parts(s *store.Store, v api.Value) (kind int, in []api.Value) {
	if s.Kind(v) == api.Vec {
		return api.Vector, slotsOf(s, v)
	}
	if s.Kind(v) != api.Pair {
		return 0, nil
	}
	for s.Kind(v) == api.Pair {
		slots := slotsOf(s, v)
		in, v = append(in, slots[0]), slots[1]
	}
	if v == null {
		return api.List, in
	}
	return api.Dotted, append(in, v)
}

// awaited is a value that was not gone to yet: of a datum that stands that deep, or of the rest of Pairs whose datums do.
type awaited struct {
	v    api.Value
	deep int
	rest bool
}

// met is the error of the first datum of v's that has one: they are gone to one behind the other, as they would stand in a text.
func met(s *store.Store, v api.Value) api.Errno {
	left := []awaited{{v, 1, false}}
	for count := 0; len(left) > 0; {
		p := left[len(left)-1]
		left = left[:len(left)-1]
		pair := s.Kind(p.v) == api.Pair
		if p.rest && pair {
			slots := slotsOf(s, p.v)
			left = append(left, awaited{slots[1], p.deep, true}, awaited{slots[0], p.deep, false})
		}
		if p.rest && (pair || p.v == null) {
			continue
		}
		count++
		if p.deep > api.MaxDepth {
			return api.ErrDeep
		}
		if count > api.MaxNodes || s.Kind(p.v) == api.Str && !stringy(s, p.v) {
			return api.ErrLarge
		}
		if pair {
			left = append(left, awaited{p.v, p.deep + 1, true})
		}
		if s.Kind(p.v) == api.Vec {
			for _, x := range slices.Backward(slotsOf(s, p.v)) {
				left = append(left, awaited{x, p.deep + 1, false})
			}
		}
	}
	return api.OK
}

// stringy tells if the Str v is a string.
func stringy(s *store.Store, v api.Value) bool {
	return s.Len(v) <= api.MaxString && !slices.ContainsFunc(slotsOf(s, v), func(x api.Value) bool { return x.Tag != api.TChar })
}

// raised is the datum of v, for which there is one.
func raised(s *store.Store, v api.Value) api.Datum {
	if kind, in := parts(s, v); kind != 0 {
		d := group(kind)
		for _, x := range in {
			d.List = append(d.List, raised(s, x))
		}
		return d
	}
	switch v.Tag {
	case api.TNil:
		return list()
	case api.TFix:
		return whole(v.N)
	case api.TChar:
		return leaf(api.Char, string(rune(v.N)))
	case api.TSym:
		name, _ := s.Name(v)
		if d, _, e := read.Read([]byte(name), 1); e != api.OK || len(d) != 1 || d[0].Kind != api.Symbol || d[0].Text != name {
			return other("symbol")
		}
		return sym(name)
	case api.TObj:
		return raisedObject(s, v)
	}
	return map[int]api.Datum{api.TTrue: leaf(api.True, ""), api.TFalse: leaf(api.False, ""), api.TVoid: leaf(api.Void, ""), api.TPrim: other("procedure"), api.TUnset: other("internal")}[v.Tag]
}

func raisedObject(s *store.Store, v api.Value) api.Datum {
	switch s.Kind(v) {
	case api.Str:
		var text []rune
		for _, x := range slotsOf(s, v) {
			text = append(text, rune(x.N))
		}
		return str(string(text))
	case api.Big:
		if x, ok := summed(slotsOf(s, v)); ok {
			return integer(x)
		}
	}
	return other(map[int]string{api.Box: "box", api.Closure: "procedure", api.Kont: "procedure", api.Syn: "syntax", api.Frame: "internal", api.Multi: "internal", api.Big: "internal"}[s.Kind(v)])
}

// summed is the integer of which a Big has these slots, reckoned up as one and taken apart again: only what comes out as it was is one.
func summed(slots []api.Value) (api.Int, bool) {
	sum := new(big.Int)
	for _, x := range slices.Backward(slots) {
		sum.Add(sum.Mul(sum, big.NewInt(api.Base)), big.NewInt(int64(x.N)))
	}
	if len(slots) == 0 {
		return api.Int{}, false
	}
	sum.Div(sum.Sub(sum, big.NewInt(int64(slots[0].N))), big.NewInt(api.Base))
	if slots[0].N == 1 {
		sum.Neg(sum)
	}
	x, ok := num.Parse(sum.String())
	great := sum.CmpAbs(big.NewInt(lift.Fixes)) >= 0
	return x, ok && great && slices.Equal(bigSlots(x), slots)
}

// lower is what the value of d is, written out as shown does, and how many cells it takes.
func lower(d api.Datum) (string, int) {
	switch d.Kind {
	case api.List:
		return lowerPairs(d.List, "0:0", 0)
	case api.Dotted:
		n := len(d.List) - 1
		end, cells := lower(d.List[n])
		return lowerPairs(d.List[:n], end, cells)
	case api.Vector:
		text, cells := "{2", 1
		for _, in := range d.List {
			more, takes := lower(in)
			text, cells = text+" "+more, cells+1+takes
		}
		return text + "}", cells
	case api.Symbol:
		return fmt.Sprintf("%q", d.Text), 0
	case api.String:
		text := "{4"
		for _, c := range d.Text {
			text += fmt.Sprintf(" 5:%d", c)
		}
		return text + "}", 1 + utf8.RuneCountInString(d.Text)
	case api.Char:
		return fmt.Sprintf("5:%d", []rune(d.Text)[0]), 0
	case api.Integer:
		return lowerNumber(d.Num)
	}
	return map[int]string{api.True: "1:0", api.False: "2:0", api.Void: "3:0"}[d.Kind], 0
}

func lowerPairs(in []api.Datum, end string, cells int) (string, int) {
	for _, d := range slices.Backward(in) {
		first, takes := lower(d)
		end, cells = "{1 "+first+" "+end+"}", cells+3+takes
	}
	return end, cells
}

func lowerNumber(x api.Int) (string, int) {
	if digits := strings.TrimPrefix(num.Text(x), "-"); len(digits) <= 18 {
		return "4:" + num.Text(x), 0
	}
	text := "{5 4:0"
	if x.Neg {
		text = "{5 4:1"
	}
	for _, l := range x.Limbs {
		text += fmt.Sprintf(" 4:%d", l)
	}
	return text + "}", 2 + len(x.Limbs)
}

// chance answers numbers that are always the same ones.
type chance uint64

// below answers the next one, from 0 on, below n.
func (c *chance) below(n int) int {
	*c = *c*6364136223846793005 + 1442695040888963407
	return int(uint64(*c>>33) % uint64(n))
}

// number is some integer, often one near to where it becomes an object, or one of many limbs.
func (c *chance) number() api.Int {
	if c.below(2) == 0 {
		return num.Of(c.below(1000) - 500)
	}
	x := num.Of(lift.Fixes - 2 + c.below(4))
	if c.below(2) == 0 {
		x.Limbs = nil
		for range 1 + c.below(api.MaxLimbs) {
			x.Limbs = append(x.Limbs, uint32(c.below(api.Base)))
		}
		x.Limbs[len(x.Limbs)-1] = uint32(1 + c.below(top))
	}
	x.Neg = c.below(2) == 0
	return x
}

// leaf is some leaf that is no Other.
func (c *chance) leaf() api.Datum {
	names := []string{"a", "b", "...", "->x", "\u00E4", "+"}
	letters := []string{"x", "\x00", "\n", "\"", "\u00E4", "\U0010FFFF"}
	switch c.below(8) {
	case 0:
		return sym(names[c.below(len(names))])
	case 1:
		text := ""
		for range c.below(5) {
			text += letters[c.below(len(letters))]
		}
		return str(text)
	case 2:
		return leaf(api.Char, letters[c.below(len(letters))])
	case 3, 4:
		return integer(c.number())
	case 5:
		return list()
	}
	return leaf([]int{api.True, api.False, api.Void}[c.below(3)], "")
}

// datum is some datum, not deeper than deep.
func (c *chance) datum(deep int) api.Datum {
	if deep == 1 || c.below(3) == 0 {
		return c.leaf()
	}
	kind := []int{api.List, api.Dotted, api.Vector}[c.below(3)]
	var in []api.Datum
	for range c.below(4) {
		in = append(in, c.datum(deep-1))
	}
	if kind != api.Dotted {
		return group(kind, in...)
	}
	in = append(in, c.datum(deep-1))
	end := c.datum(deep - 1)
	for end.Kind == api.List || end.Kind == api.Dotted {
		end = c.leaf()
	}
	return dotted(append(in, end)...)
}

// Whatever a datum is, it goes down as the chapter says, and comes up again.
func TestModelDown(t *testing.T) {
	var full int
	for seed := range 4000 {
		c := chance(seed)
		d := placed(c.datum(1 + c.below(7)))
		want, cells := lower(d)
		s := wide(t)
		lowers(t, s, d, want, cells)
		returns(t, s, d)
		lowers(t, made(t, cells), d, want, cells)
		for range min(cells, 3) {
			refused(t, made(t, c.below(cells)), d, api.ErrFull)
			full++
		}
		for _, x := range bads()[c.below(5):][:1] {
			bad := around(d)[c.below(9)]
			bad.List = slices.Insert(slices.Clone(bad.List), c.below(len(bad.List)+1), x)
			refused(t, s, bad, api.ErrForm)
		}
	}
	if full < 5000 {
		t.Errorf("%d had too little room: that says little", full)
	}
}

// names are those of the symbols that mixed stores have.
func names() []string { return []string{"a", "...", "1", "#t", ".", "a b", "\xFF", "-"} }

// plain is some value that is no object.
func (c *chance) plain() api.Value {
	switch c.below(6) {
	case 0:
		return value(api.TSym, c.below(len(names())))
	case 1:
		return fix(lift.Fixes - 2 + c.below(4))
	case 2:
		return chr(rune(c.below(300)))
	case 3:
		return value([]int{api.TNil, api.TTrue, api.TFalse, api.TVoid, api.TUnset}[c.below(5)], 0)
	case 4:
		return value(api.TPrim, c.below(256))
	}
	return fix(c.below(3) - 1)
}

// strange makes some object that no value stands in, as far as its datum goes.
func (c *chance) strange(t *testing.T, s *store.Store) {
	switch c.below(8) {
	case 0:
		put(t, s, api.Big, bigSlots(c.number())...)
	case 1:
		slots := bigSlots(c.number())
		slots[c.below(len(slots))] = fix([]int{-1, 0, 1, api.Base, api.Base + 1}[c.below(5)])
		put(t, s, api.Big, slots...)
	case 2, 3:
		n := c.below(4)
		if c.below(3) == 0 {
			n = api.MaxString
			n += c.below(2)
		}
		put(t, s, api.Str, slices.Repeat([]api.Value{chr('\u00E4')}, n)...)
	case 4:
		put(t, s, api.Str, chr('a'), c.plain(), chr('b'))
	case 5:
		put(t, s, api.Box, c.plain())
	case 6:
		syntax(t, s, api.Stx{Kind: api.True})
	default:
		put(t, s, []int{api.Closure, api.Kont, api.Frame, api.Multi}[c.below(4)], c.plain())
	}
}

// some is some value, most often one of the objects made last.
func (c *chance) some(n int) api.Value {
	if n == 0 || c.below(6) == 0 {
		return c.plain()
	}
	if c.below(4) == 0 {
		return obj(c.below(n))
	}
	return obj(n - 1 - c.below(min(n, 3)))
}

// mixed makes a store of n objects that hold one another, each those ahead of it; at times some go round.
func (c *chance) mixed(t *testing.T, n int) *store.Store {
	s := wide(t)
	for _, name := range names() {
		named(t, s, name)
	}
	odd := 2 + c.below(40) // the greater, the more rarely what no value stands in
	for i := range n {
		switch {
		case c.below(odd) == 0:
			c.strange(t, s)
		case c.below(3) == 0:
			slots := make([]api.Value, c.below(4))
			for j := range slots {
				slots[j] = c.some(i)
			}
			put(t, s, api.Vec, slots...)
		default:
			put(t, s, api.Pair, c.some(i), c.some(i))
		}
	}
	for range c.below(3) {
		if v := obj(c.below(n)); s.Kind(v) == api.Pair || s.Kind(v) == api.Vec && s.Len(v) > 0 {
			set(t, s, v, c.below(s.Len(v)), obj(c.below(n)))
		}
	}
	return s
}

// Whatever holds whatever, Up answers what going through its datums one by one does.
func TestModelUp(t *testing.T) {
	ended := map[api.Errno]int{}
	for seed := range 1500 {
		c := chance(seed)
		n := 1 + c.below(60)
		s := c.mixed(t, n)
		before := told(s)
		for range 8 {
			v := obj(n - 1 - c.below(min(n, 8)))
			want := met(s, v)
			ended[want]++
			if want != api.OK {
				stays(t, s, v, want)
				continue
			}
			rises(t, s, v, raised(s, v))
		}
		if after := told(s); after != before {
			t.Fatalf("seed %d: %.300s became %.300s", seed, before, after)
		}
	}
	if min(ended[api.OK], ended[api.ErrDeep], ended[api.ErrLarge]) < 1000 {
		t.Errorf("how they ended: %v: that says little", ended)
	}
}

// All stores of two Pairs and a Vec whose slots have nothing, 1 or one of the three.
func TestSmallRounds(t *testing.T) {
	choices := []api.Value{null, fix(1), obj(0), obj(1), obj(2)}
	s := wide(t)
	put(t, s, api.Pair, null, null)
	put(t, s, api.Pair, null, null)
	put(t, s, api.Vec, null)
	for n := range 5 * 5 * 5 * 5 * 5 {
		for i := range 5 {
			set(t, s, obj(i/2), i%2, choices[n%5])
			n /= 5
		}
		for v := range 3 {
			if want := met(s, obj(v)); want != api.OK {
				stays(t, s, obj(v), want)
			} else {
				rises(t, s, obj(v), raised(s, obj(v)))
			}
		}
	}
}
