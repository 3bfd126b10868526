package ident_test

import (
	"fmt"
	"slices"
	"testing"

	"marginalia/api"
	"marginalia/ident"
	"marginalia/rib"
)

// id is the identifier of that name with these marks, and a rib ahead of them, which does not count.
func id(name string, rib int, marks ...int) api.Stx {
	return api.Stx{Kind: api.Symbol, Text: name, Marks: marks, Subs: append([]int{rib}, slices.Repeat([]int{api.Shift}, len(marks))...)}
}

// some are identifiers, many of them Bound as others.
func some() []api.Stx {
	var ids []api.Stx
	for i := range 3 {
		for _, name := range []string{"b", "a", "ab", "..."} {
			ids = append(ids, id(name, 1+i), id(name, 1+i, 5), id(name, 1+i, 5, 6+i%2), id(name, 1+i, api.Anti, 5), id(name, 1+i, 7-i))
		}
	}
	return ids
}

// Finder answers what holding each against each by chapter 11's Bound does.
func TestFinder(t *testing.T) {
	ids, twice := some(), 0
	for from := range ids {
		for to := from; to <= len(ids); to += 1 + to%3 {
			given := slices.Clone(ids[from:to])
			f := ident.Of(given...)
			two := false
			for at, x := range ids {
				want := slices.IndexFunc(given, func(y api.Stx) bool { return rib.Bound(x, y) })
				place, ok := f.Find(x)
				if ok != (want >= 0) || place != max(want, 0) {
					t.Fatalf("%d to %d: %v is found at %d, %v, not %d", from, to, x, place, ok, want)
				}
				two = two || at >= from && at < to && want != at-from
			}
			if f.Twice() != two {
				t.Fatalf("%d to %d: %v", from, to, !two)
			}
			if two {
				twice++
			}
			if fmt.Sprint(given) != fmt.Sprint(ids[from:to]) {
				t.Fatalf("%d to %d: what was handed in was changed", from, to)
			}
		}
	}
	if twice < 100 {
		t.Errorf("only %d", twice)
	}
}

func TestFinderOfNothing(t *testing.T) {
	for _, f := range []ident.Finder{{}, ident.Of()} {
		if place, ok := f.Find(id("a", 1)); ok || place != 0 || f.Twice() {
			t.Errorf("%d, %v, %v", place, ok, f.Twice())
		}
	}
}
