package wrap_test

import (
	"math"
	"math/rand"
	"slices"
	"strconv"
	"testing"

	"marginalia/api"
	"marginalia/wrap"
)

// A thing is a mark, or a rib, where it stands in a wrap: a Shift and its mark are one thing. A row of things says what a sound wrap says, so that what is joined can be told without counting marks and Shifts.
type thing struct {
	mark bool
	n    int
}

var anti = thing{true, api.Anti}

// row answers the things of w, which has as many Shifts as marks.
func row(w wrap.Wrap) []thing {
	var list []thing
	marks := 0
	for _, n := range w.Subs {
		if n != api.Shift {
			list = append(list, thing{false, n})
			continue
		}
		list = append(list, thing{true, w.Marks[marks]})
		marks++
	}
	return list
}

// wrapped is the wrap of these things.
func wrapped(list ...thing) wrap.Wrap {
	var w wrap.Wrap
	for _, x := range list {
		if !x.mark {
			w.Subs = append(w.Subs, x.n)
			continue
		}
		w.Marks = append(w.Marks, x.n)
		w.Subs = append(w.Subs, api.Shift)
	}
	return w
}

// count answers how many marks there are, and if an Anti is among those behind the first one.
func count(list []thing) (marks int, astray bool) {
	for _, x := range list {
		astray = astray || marks > 0 && x == anti
		if x.mark {
			marks++
		}
	}
	return marks, astray
}

// joined is what two rows of sound wraps come to.
func joined(outer, inner []thing) ([]thing, api.Errno) {
	if n := len(outer) - 1; n >= 0 && len(inner) > 0 && outer[n].mark && outer[n] != anti && inner[0] == anti {
		outer, inner = outer[:n], inner[1:]
	}
	list := slices.Concat(outer, inner)
	marks, astray := count(list)
	switch {
	case len(list) > api.MaxWrap || marks > api.MaxWrap:
		return nil, api.ErrLarge
	case astray:
		return nil, api.ErrForm
	}
	return list, api.OK
}

// written are the numbers of list as texts.
func written(list []int) []string {
	var texts []string
	for _, n := range list {
		texts = append(texts, strconv.Itoa(n))
	}
	return texts
}

// check holds Join against what rows come to.
func check(t *testing.T, outer, inner wrap.Wrap) {
	t.Helper()
	list, e := joined(row(outer), row(inner))
	if e != api.OK {
		refused(t, outer, inner, e)
		return
	}
	joins(t, outer, inner, wrapped(list...))
	if got, _ := wrap.Join(outer, inner); !wrap.Sound(got) || !wrap.Same(got, wrapped(list...)) {
		t.Errorf("Join of %v and %v: %v is not as it should be", outer, inner, got)
	}
}

// smalls are all sound wraps of up to four things.
func smalls() []wrap.Wrap {
	rows := [][]thing{nil}
	var all []wrap.Wrap
	for at := 0; at < len(rows); at++ {
		list := rows[at]
		all = append(all, wrapped(list...))
		if len(list) == 4 {
			continue
		}
		for _, x := range []thing{anti, {true, 1}, {true, 2}, {false, 1}, {false, 2}} {
			longer := append(slices.Clone(list), x)
			if _, astray := count(longer); !astray {
				rows = append(rows, longer)
			}
		}
	}
	return all
}

func TestJoinOfSmalls(t *testing.T) {
	all := smalls()
	for _, outer := range all {
		if !wrap.Sound(outer) || !wrap.Same(wrapped(row(outer)...), outer) {
			t.Fatalf("%v", outer)
		}
		for _, inner := range all {
			check(t, outer, inner)
		}
	}
}

// random is a sound wrap of n things.
func random(r *rand.Rand, n int) wrap.Wrap {
	var list []thing
	for range n {
		x := thing{r.Intn(2) == 0, 1 + r.Intn(3)}
		if marks, _ := count(list); x.mark && marks == 0 && r.Intn(2) == 0 {
			x = anti
		}
		list = append(list, x)
	}
	return wrapped(list...)
}

func TestJoinOfGreats(t *testing.T) {
	r := rand.New(rand.NewSource(9))
	for range 20000 {
		n := r.Intn(api.MaxWrap + 1)
		m := min(max(api.MaxWrap-n+r.Intn(9)-4, 0), api.MaxWrap)
		outer, inner := random(r, n), random(r, m)
		check(t, outer, inner)
		if n < api.MaxWrap {
			list := append(row(outer), thing{true, 7})
			check(t, wrapped(list...), inner)
		}
	}
}

// Joins of three come to the same either way, if each one is sound in each step: a piece's wrap hangs on what stands around it, not on when it was joined.
func TestJoinOfThree(t *testing.T) {
	all := slices.DeleteFunc(smalls(), func(w wrap.Wrap) bool { return len(w.Subs) > 2 })
	for _, a := range all {
		for _, b := range all {
			ab, e := wrap.Join(a, b)
			if e != api.OK {
				continue
			}
			for _, c := range all {
				bc, e := wrap.Join(b, c)
				if e != api.OK {
					continue
				}
				left, e := wrap.Join(ab, c)
				right, f := wrap.Join(a, bc)
				if e == api.OK && f == api.OK && !wrap.Same(left, right) {
					t.Errorf("%v, %v, %v: %v and %v", a, b, c, left, right)
				}
			}
		}
	}
}

// Memory

// roomy answers a list of the same numbers with room to spare, in which stand numbers of their own.
func roomy(list []int) []int {
	spare := append(slices.Clone(list), 71, 72, 73, 74)
	return spare[:len(list)]
}

// whole is list with its spare room.
func whole(list []int) []int { return list[:cap(list)] }

// TestMemory: what is handed in is neither changed nor kept, and what is answered shares nothing.
func TestMemory(t *testing.T) {
	for _, outer := range smalls() {
		for _, inner := range []wrap.Wrap{{}, of(ints(5), ints(0)), of(ints(-1), ints(0)), of(ints(-1, 3), ints(0, 4, 0)), of(nil, ints(6, 7))} {
			a, b := of(roomy(outer.Marks), roomy(outer.Subs)), of(roomy(inner.Marks), roomy(inner.Subs))
			in := [][]int{whole(a.Marks), whole(a.Subs), whole(b.Marks), whole(b.Subs)}
			before := slices.Clone(in)
			for i, list := range before {
				before[i] = slices.Clone(list)
			}
			wrap.Sound(a)
			wrap.Same(a, b)
			first, e := wrap.Join(a, b)
			second, _ := wrap.Join(a, b)
			want, _ := joined(row(outer), row(inner))
			fill(first.Marks, 81)
			fill(first.Subs, 82)
			if !slices.EqualFunc(in, before, slices.Equal) {
				t.Fatalf("%v and %v: %v was handed in, and is %v", outer, inner, before, in)
			}
			fill(a.Marks, 83)
			fill(a.Subs, 84)
			fill(b.Marks, 85)
			fill(b.Subs, 86)
			if e == api.OK && !wrap.Same(second, wrapped(want...)) {
				t.Fatalf("%v and %v: %v hangs on what was handed in or answered ahead", outer, inner, second)
			}
			shared(t, first, 81, 82)
		}
	}
}

// fill puts n everywhere in list and in its spare room.
func fill(list []int, n int) {
	for i := range whole(list) {
		whole(list)[i] = n
	}
}

// shared tells if the two parts of w, of which each was filled with its number, share memory.
func shared(t *testing.T, w wrap.Wrap, mark, sub int) {
	t.Helper()
	if slices.ContainsFunc(whole(w.Marks), func(n int) bool { return n != mark }) || slices.ContainsFunc(whole(w.Subs), func(n int) bool { return n != sub }) {
		t.Errorf("parts share memory: %v", w)
	}
}

func TestMemoryOfOne(t *testing.T) {
	for _, n := range []int{api.Anti, 1, math.MaxInt} {
		w := wrap.Mark(n)
		fill(w.Marks, 81)
		fill(w.Subs, 82)
		shared(t, w, 81, 82)
		if again := wrap.Mark(n); !slices.Equal(again.Marks, ints(n)) || !slices.Equal(again.Subs, ints(api.Shift)) {
			t.Errorf("Mark(%d) again: %v", n, again)
		}
	}
	fill(wrap.Rib(4).Subs, 81)
	if again := wrap.Rib(4); !slices.Equal(again.Subs, ints(4)) {
		t.Errorf("Rib(4) again: %v", again)
	}
}
