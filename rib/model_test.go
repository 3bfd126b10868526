package rib_test

import (
	"math/rand"
	"slices"
	"testing"

	"marginalia/api"
	"marginalia/rib"
)

// A word-by-word reading of the chapter: each rib is a list of entries.
type entry struct {
	name  string
	marks []int
	label int
}

type model struct {
	ribs  [][]entry
	fresh int
}

// left answers the marks that are left at place i of x's Subs: as many as there are Shifts behind it.
func left(x api.Stx, i int) []int {
	count := 0
	for _, n := range x.Subs[i:] {
		if n == api.Shift {
			count++
		}
	}
	return x.Marks[len(x.Marks)-count:]
}

// in answers the label that a rib has for a name and marks; 0, if there is none.
func (m *model) in(n int, name string, marks []int) int {
	if n < 1 || n > len(m.ribs) {
		return 0
	}
	for _, e := range m.ribs[n-1] {
		if e.name == name && slices.Equal(e.marks, marks) {
			return e.label
		}
	}
	return 0
}

func (m *model) find(x api.Stx) int {
	for i, n := range x.Subs {
		if n == api.Shift {
			continue
		}
		if label := m.in(n, x.Text, left(x, i)); label != 0 {
			return label
		}
	}
	return 0
}

func (m *model) put(n int, x api.Stx, label int) api.Errno {
	switch {
	case n < 1 || n > len(m.ribs) || label < 1:
		return api.ErrArg
	case m.in(n, x.Text, x.Marks) != 0:
		return api.ErrForm
	}
	m.ribs[n-1] = append(m.ribs[n-1], entry{x.Text, slices.Clone(x.Marks), label})
	return api.OK
}

func (m *model) free(a, b api.Stx) bool {
	one, other := m.find(a), m.find(b)
	if one == 0 && other == 0 {
		return a.Text == b.Text
	}
	return one == other
}

func (m *model) copied() *model {
	c := &model{fresh: m.fresh}
	for _, list := range m.ribs {
		c.ribs = append(c.ribs, slices.Clone(list))
	}
	return c
}

// smalls are all identifiers of two names, with up to four things in their wraps: Shifts with marks out of three (the first one may be Anti), and ribs out of four.
func smalls() []api.Stx {
	all := []api.Stx{{Kind: api.Symbol, Text: "x"}, {Kind: api.Symbol, Text: "y"}}
	for at := 0; at < len(all); at++ {
		x := all[at]
		if len(x.Subs) == 4 {
			continue
		}
		for n := 1; n <= 4; n++ {
			all = append(all, id(x.Text, x.Marks, append(slices.Clone(x.Subs), n)))
		}
		for _, n := range ints(api.Anti, 1, 2) {
			if n != api.Anti || len(x.Marks) == 0 {
				all = append(all, id(x.Text, append(slices.Clone(x.Marks), n), append(slices.Clone(x.Subs), api.Shift)))
			}
		}
	}
	return all
}

// filled answers three ribs with entries for some small identifiers.
func filled(t *testing.T, r *rand.Rand, all []api.Stx, many int) (*rib.Ribs, *model) {
	t.Helper()
	got, m := ribs(t, 3), &model{ribs: make([][]entry, 3)}
	for range many {
		n, x, label := 1+r.Intn(4), all[r.Intn(len(all))], 1+r.Intn(5)
		puts(t, got, n, x, label, m.put(n, x, label))
	}
	return got, m
}

func TestSmalls(t *testing.T) {
	r := rand.New(rand.NewSource(11))
	all := smalls()
	found := 0
	for many := range 60 {
		got, m := filled(t, r, all, many)
		for _, x := range all {
			want := m.find(x)
			finds(t, got, x, want)
			if want != 0 {
				found++
			}
		}
		for range 1000 {
			a, b := all[r.Intn(len(all))], all[r.Intn(len(all))]
			free(t, got, a, b, m.free(a, b))
			bound(t, a, b, a.Text == b.Text && slices.Equal(a.Marks, b.Marks))
		}
	}
	if len(all) < 3000 || found < 50000 {
		t.Errorf("%d identifiers, %d found", len(all), found)
	}
}

// step does one thing to both, and to a copy, now and then.
func step(t *testing.T, r *rand.Rand, all []api.Stx, got *rib.Ribs, m *model) {
	t.Helper()
	a, b := all[r.Intn(len(all))], all[r.Intn(len(all))]
	switch r.Intn(8) {
	case 0:
		m.ribs = append(m.ribs, nil)
		if n := got.Rib(); n != len(m.ribs) {
			t.Errorf("Rib: %d, not %d", n, len(m.ribs))
		}
	case 1:
		m.fresh++
		if n := got.Fresh(); n != m.fresh {
			t.Errorf("Fresh: %d, not %d", n, m.fresh)
		}
	case 2:
		free(t, got, a, b, m.free(a, b))
	case 3, 4:
		finds(t, got, a, m.find(a))
	default:
		n, label := r.Intn(len(m.ribs)+2), r.Intn(9)
		puts(t, got, n, a, label, m.put(n, a, label))
	}
}

// Several copies, taken from one another, go their own ways.
func TestRuns(t *testing.T) {
	r := rand.New(rand.NewSource(12))
	all := smalls()
	for range 60 {
		got, m := filled(t, r, all, 20)
		lives, models := []*rib.Ribs{got}, []*model{m}
		for range 400 {
			i := r.Intn(len(lives))
			step(t, r, all, lives[i], models[i])
			if r.Intn(60) == 0 {
				lives, models = append(lives, lives[i].Copy()), append(models, models[i].copied())
			}
		}
		for i := range lives {
			for range 200 {
				x := all[r.Intn(len(all))]
				finds(t, lives[i], x, models[i].find(x))
			}
		}
	}
}
