package store_test

import (
	"fmt"
	"slices"
	"strings"
	"testing"

	"marginalia/api"
	"marginalia/store"
)

// thing is an object that is known by itself, not by a number.
type thing struct {
	kind  int
	slots []word
	x     api.Stx
	cells int
}

// word is a value: of an object the thing, else what it is.
type word struct {
	thing *thing
	plain api.Value
}

// model is a store that is made of things.
type model struct {
	cells  int
	things []*thing
	names  []string
}

// word is v as the model has it; false, if it is not sound.
func (m *model) word(v api.Value) (word, bool) {
	switch v.Tag {
	case api.TObj:
		if v.N < 0 || v.N >= len(m.things) {
			return word{}, false
		}
		return word{thing: m.things[v.N]}, true
	case api.TSym:
		return word{plain: v}, v.N >= 0 && v.N < len(m.names)
	}
	return word{plain: v}, v.Tag == api.TFix || v.N == 0
}

// words are values as the model has them; false, if one is not sound.
func (m *model) words(list []api.Value) ([]word, bool) {
	var words []word
	for _, v := range list {
		w, ok := m.word(v)
		if !ok {
			return nil, false
		}
		words = append(words, w)
	}
	return words, true
}

// value is w as the store has it.
func (m *model) value(w word) api.Value {
	if w.thing == nil {
		return w.plain
	}
	return obj(slices.Index(m.things, w.thing))
}

// used is how many cells the things take.
func (m *model) used() int {
	sum := 0
	for _, o := range m.things {
		sum += o.cells
	}
	return sum
}

// put puts o behind the other things, if there is room.
func (m *model) put(o *thing) (api.Value, api.Errno) {
	if m.used()+o.cells > m.cells {
		return api.Value{}, api.ErrFull
	}
	m.things = append(m.things, o)
	return obj(len(m.things) - 1), api.OK
}

func (m *model) make(kind int, list []api.Value) (api.Value, api.Errno) {
	if kind < api.Pair || kind > api.Multi || kind == api.Pair && len(list) != 2 || kind == api.Box && len(list) != 1 {
		return api.Value{}, api.ErrArg
	}
	words, ok := m.words(list)
	if !ok {
		return api.Value{}, api.ErrForm
	}
	return m.put(&thing{kind: kind, slots: words, cells: 1 + len(words)})
}

func (m *model) set(v api.Value, i int, x api.Value) api.Errno {
	o, ok := m.word(v)
	if !ok || o.thing == nil {
		return api.ErrType
	}
	if i < 0 || i >= len(o.thing.slots) {
		return api.ErrRange
	}
	w, ok := m.word(x)
	if !ok {
		return api.ErrForm
	}
	o.thing.slots[i] = w
	return api.OK
}

func (m *model) symbol(name string) api.Value {
	n := slices.Index(m.names, name)
	if n < 0 {
		n = len(m.names)
		m.names = append(m.names, name)
	}
	return symbol(n)
}

// mark puts what can be come to from w among found.
func mark(w word, found map[*thing]bool) {
	if w.thing == nil || found[w.thing] {
		return
	}
	found[w.thing] = true
	for _, in := range w.thing.slots {
		mark(in, found)
	}
}

func (m *model) collect(roots []api.Value) ([]api.Value, api.Errno) {
	words, ok := m.words(roots)
	if !ok {
		return nil, api.ErrForm
	}
	found := map[*thing]bool{}
	for _, w := range words {
		mark(w, found)
	}
	m.things = slices.DeleteFunc(m.things, func(o *thing) bool { return !found[o] })
	var moved []api.Value
	for _, w := range words {
		moved = append(moved, m.value(w))
	}
	return moved, api.OK
}

// copied is a model of its own.
func (m *model) copied() *model {
	c, twin := &model{cells: m.cells, names: slices.Clone(m.names)}, map[*thing]*thing{}
	for _, o := range m.things {
		twin[o] = &thing{kind: o.kind, x: o.x, cells: o.cells}
		c.things = append(c.things, twin[o])
	}
	for _, o := range m.things {
		for _, w := range o.slots {
			twin[o].slots = append(twin[o].slots, word{thing: twin[w.thing], plain: w.plain})
		}
	}
	return c
}

// told is what a store that is the same tells of itself.
func (m *model) told() string {
	var b strings.Builder
	fmt.Fprint(&b, m.used())
	for _, o := range m.things {
		fmt.Fprintf(&b, "; %d:", o.kind)
		for _, w := range o.slots {
			fmt.Fprint(&b, m.value(w), api.OK)
		}
		if o.kind == api.Syn {
			fmt.Fprintf(&b, "%+v", o.x)
		}
	}
	for _, name := range m.names {
		fmt.Fprintf(&b, "; %q%d", name, api.OK)
	}
	return b.String()
}

// chance answers numbers that are always the same ones.
type chance uint64

// below answers the next one, from 0 on, below n.
func (c *chance) below(n int) int {
	*c = *c*6364136223846793005 + 1442695040888963407
	return int(uint64(*c>>33) % uint64(n))
}

// value is some value, most often a sound one of m.
func (c *chance) value(m *model) api.Value {
	n := len(m.things)
	switch c.below(9) {
	case 0:
		return fix(c.below(3) - 1)
	case 1:
		return symbol(c.below(len(m.names) + 1))
	case 2:
		if c.below(4) == 0 { // often not sound
			return value(c.below(4), c.below(2))
		}
		return null
	case 3:
		if c.below(4) == 0 { // not sound
			return obj(n + c.below(2))
		}
	}
	return obj(c.below(max(n, 1)))
}

// values are some values, at most that many.
func (c *chance) values(m *model, most int) []api.Value {
	list := make([]api.Value, c.below(most+1))
	for i := range list {
		list[i] = c.value(m)
	}
	return list
}

// pair is a store, and the model of it.
type pair struct {
	s *store.Store
	m *model
}

// step does some call with both, and answers what it was and what they answered.
func (p *pair) step(c *chance) (call, got, want string) {
	switch c.below(12) {
	case 0, 1, 2, 3:
		kind, list := 1+c.below(9), c.values(p.m, 4)
		if c.below(8) == 0 {
			kind = c.below(12)
		}
		if kind == api.Pair && c.below(8) > 0 {
			list = []api.Value{c.value(p.m), c.value(p.m)}
		}
		v1, e1 := p.s.Make(kind, list...)
		v2, e2 := p.m.make(kind, list)
		return fmt.Sprint("Make ", kind, list), fmt.Sprint(v1, e1), fmt.Sprint(v2, e2)
	case 4:
		some := pieces()[c.below(12)]
		v1, e1 := p.s.Wrap(some.x)
		v2, e2 := p.m.put(&thing{kind: api.Syn, x: some.x, cells: some.cells})
		return "Wrap", fmt.Sprint(v1, e1), fmt.Sprint(v2, e2)
	case 5, 6, 7, 8:
		v, i, x := c.value(p.m), c.below(6)-1, c.value(p.m)
		return fmt.Sprint("Set ", v, i, x), fmt.Sprint(p.s.Set(v, i, x)), fmt.Sprint(p.m.set(v, i, x))
	case 9:
		name := string(rune('a' + c.below(20)))
		v, e := p.s.Symbol(name)
		return "Symbol " + name, fmt.Sprint(v, e), fmt.Sprint(p.m.symbol(name), api.OK)
	}
	roots := c.values(p.m, 6)
	v1, e1 := p.s.Collect(roots...)
	v2, e2 := p.m.collect(roots)
	return fmt.Sprint("Collect ", roots), fmt.Sprint(v1, e1), fmt.Sprint(v2, e2)
}

// Whatever is called behind whatever, a store and its copies answer as their models do.
func TestModel(t *testing.T) {
	for seed := range 300 {
		c := chance(seed)
		cells := 20 + c.below(200)
		all := []pair{{made(t, cells), &model{cells: cells}}}
		for step := range 200 {
			p := &all[c.below(len(all))]
			if c.below(20) == 0 {
				twin := pair{p.s.Copy(), p.m.copied()}
				if len(all) < 3 {
					all = append(all, twin)
				} else {
					all[c.below(3)] = twin
				}
				continue
			}
			if call, got, want := p.step(&c); got != want {
				t.Fatalf("seed %d, step %d, %s: %s, not %s", seed, step, call, got, want)
			}
			for _, p := range all {
				if got, want := told(p.s), p.m.told(); got != want {
					t.Fatalf("seed %d, step %d: %s\nnot %s", seed, step, got, want)
				}
			}
		}
	}
}
