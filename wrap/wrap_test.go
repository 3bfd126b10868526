package wrap_test

import (
	"math"
	"regexp"
	"slices"
	"strings"
	"testing"

	"marginalia/api"
	"marginalia/wrap"
)

// of is the wrap with these marks and substitutions.
func of(marks, subs []int) wrap.Wrap { return wrap.Wrap{Marks: marks, Subs: subs} }

// ints is a list, written short.
func ints(n ...int) []int { return n }

// nothings are the wraps with nothing in them, each list nil or empty.
func nothings() []wrap.Wrap {
	return []wrap.Wrap{{}, of(ints(), nil), of(nil, []int{}), of([]int{}, []int{})}
}

// lists answers all lists of up to most of those numbers.
func lists(most int, from ...int) [][]int {
	all := [][]int{nil}
	for at := 0; at < len(all); at++ {
		if len(all[at]) == most {
			break
		}
		for _, n := range from {
			all = append(all, append(slices.Clone(all[at]), n))
		}
	}
	return all
}

// joins holds what Join answers against what it should.
func joins(t *testing.T, outer, inner, want wrap.Wrap) {
	t.Helper()
	got, e := wrap.Join(outer, inner)
	if e != api.OK || !slices.Equal(got.Marks, want.Marks) || !slices.Equal(got.Subs, want.Subs) {
		t.Errorf("Join of %v and %v: %v, %d, not %v", outer, inner, got, e, want)
	}
}

// refused tells if Join answers that error, and nothing.
func refused(t *testing.T, outer, inner wrap.Wrap, want api.Errno) {
	t.Helper()
	if got, e := wrap.Join(outer, inner); e != want || len(got.Marks)+len(got.Subs) != 0 {
		t.Errorf("Join of %v and %v: %v, %d, not error %d", outer, inner, got, e, want)
	}
}

// The chapter's words

var (
	markForm = regexp.MustCompile(`^A?m*$`)
	subForm  = regexp.MustCompile(`^[sr]*$`)
)

// spelt is each number of list as the letter of what it may be: b what is below Anti or Shift.
func spelt(list []int, lowest int, letters string) string {
	var b strings.Builder
	for _, n := range list {
		switch {
		case n < lowest:
			b.WriteByte('b')
		case n > 0:
			b.WriteByte(letters[len(letters)-1])
		default:
			b.WriteByte(letters[n-lowest])
		}
	}
	return b.String()
}

func TestSound(t *testing.T) {
	all := lists(4, math.MinInt, -1, 0, 1, math.MaxInt)
	for _, marks := range lists(3, math.MinInt, -2, -1, 0, 1, 2, math.MaxInt) {
		form := spelt(marks, api.Anti, "A0m")
		for _, subs := range all {
			places := spelt(subs, api.Shift, "sr")
			want := markForm.MatchString(form) && subForm.MatchString(places) && strings.Count(places, "s") == len(marks)
			if wrap.Sound(of(marks, subs)) != want {
				t.Fatalf("Sound of %v, %v: not %v", marks, subs, want)
			}
		}
	}
	for _, w := range nothings() {
		if !wrap.Sound(w) {
			t.Errorf("Sound of %v: false", w)
		}
	}
}

// A fault counts wherever it stands.
func TestSoundAtEachPlace(t *testing.T) {
	for place := range api.MaxWrap {
		marks, subs := slices.Repeat(ints(9), api.MaxWrap), slices.Repeat(ints(api.Shift), api.MaxWrap)
		for _, n := range []int{math.MinInt, -2, api.Anti, 0} {
			marks[place] = n
			if want := n == api.Anti && place == 0; wrap.Sound(of(marks, subs)) != want {
				t.Errorf("the mark %d at place %d: not %v", n, place, want)
			}
		}
		marks[place] = 7
		for _, n := range []int{math.MinInt, -1, 1, math.MaxInt} {
			subs[place] = n
			want := n > 0
			if wrap.Sound(of(marks, subs)) {
				t.Errorf("the sub %d at place %d, and a mark too many", n, place)
			}
			if wrap.Sound(of(marks[1:], subs)) != want {
				t.Errorf("the sub %d at place %d: not %v", n, place, want)
			}
		}
	}
}

func TestSoundLimits(t *testing.T) {
	for _, n := range []int{api.MaxWrap - 1, api.MaxWrap, api.MaxWrap + 1, 2 * api.MaxWrap} {
		want := n <= api.MaxWrap
		if wrap.Sound(marked(n, 1)) != want || wrap.Sound(ribbed(n, 1)) != want {
			t.Errorf("%d of them: not %v", n, want)
		}
		if half := of(slices.Repeat(ints(3), n/2), slices.Repeat(ints(api.Shift, 4), n/2)); wrap.Sound(half) != (n/2*2 <= api.MaxWrap) {
			t.Errorf("%d marks and %d subs", n/2, n/2*2)
		}
	}
	if wrap.Sound(of(slices.Repeat(ints(1), api.MaxWrap+1), slices.Repeat(ints(api.Shift), api.MaxWrap))) {
		t.Error("a mark too many")
	}
}

// marked is a wrap of n marks, from first on.
func marked(n, first int) wrap.Wrap {
	w := wrap.Wrap{Subs: slices.Repeat(ints(api.Shift), n)}
	for i := range n {
		w.Marks = append(w.Marks, first+i)
	}
	return w
}

// ribbed is a wrap of n ribs, from first on.
func ribbed(n, first int) wrap.Wrap { return of(nil, marked(n, first).Marks) }

// P9.1

func TestExamples(t *testing.T) {
	joins(t, wrap.Mark(5), wrap.Mark(api.Anti), wrap.Wrap{})
	left, e := wrap.Join(wrap.Rib(2), wrap.Mark(5))
	if e != api.OK {
		t.Fatal(e)
	}
	right, e := wrap.Join(wrap.Mark(api.Anti), wrap.Rib(3))
	if e != api.OK {
		t.Fatal(e)
	}
	joins(t, left, right, of(nil, ints(2, 3)))
}

func TestJoin(t *testing.T) {
	five := of(ints(5), ints(0))
	joins(t, five, of(ints(6), ints(0)), of(ints(5, 6), ints(0, 0)))
	joins(t, five, five, of(ints(5, 5), ints(0, 0)))
	joins(t, of(nil, ints(2)), of(nil, ints(2, 1)), of(nil, ints(2, 2, 1)))
	joins(t, of(ints(5), ints(1, 0, 2)), of(ints(6), ints(3, 0, 4)), of(ints(5, 6), ints(1, 0, 2, 3, 0, 4)))
	joins(t, of(ints(-1), ints(0)), five, of(ints(-1, 5), ints(0, 0)))
	joins(t, of(ints(-1, 6), ints(1, 0, 2, 0)), of(nil, ints(3)), of(ints(-1, 6), ints(1, 0, 2, 0, 3)))
	joins(t, of(nil, ints(2)), of(ints(-1), ints(0)), of(ints(-1), ints(2, 0)))
	joins(t, of(nil, ints(2)), of(ints(-1, 5), ints(3, 0, 0)), of(ints(-1, 5), ints(2, 3, 0, 0)))
	joins(t, of(ints(math.MaxInt), ints(math.MaxInt, 0)), of(nil, ints(math.MaxInt)), of(ints(math.MaxInt), ints(math.MaxInt, 0, math.MaxInt)))
	for _, w := range []wrap.Wrap{five, of(nil, ints(2)), of(ints(-1), ints(2, 0)), of(ints(-1, 5), ints(0, 1, 0)), marked(api.MaxWrap, 1), ribbed(api.MaxWrap, 1)} {
		for _, none := range nothings() {
			joins(t, none, w, w)
			joins(t, w, none, w)
			joins(t, none, none, wrap.Wrap{})
		}
	}
}

// Where they meet, a mark and an Anti take each other away, and no more than these two.
func TestJoinTakesAway(t *testing.T) {
	anti := of(ints(-1), ints(0))
	joins(t, of(ints(5), ints(0)), anti, wrap.Wrap{})
	joins(t, of(ints(math.MaxInt), ints(0)), anti, wrap.Wrap{})
	joins(t, of(ints(5, 6), ints(0, 0)), anti, of(ints(5), ints(0)))
	joins(t, of(ints(5, 6), ints(1, 0, 2, 0)), anti, of(ints(5), ints(1, 0, 2)))
	joins(t, of(ints(5), ints(0)), of(ints(-1, 7), ints(0, 0)), of(ints(7), ints(0)))
	joins(t, of(ints(5), ints(0)), of(ints(-1, 7), ints(0, 3, 0, 4)), of(ints(7), ints(3, 0, 4)))
	joins(t, of(ints(5, 6), ints(0, 0)), of(ints(-1, 7), ints(0, 0)), of(ints(5, 7), ints(0, 0)))
	joins(t, of(ints(-1, 5), ints(0, 0)), anti, anti)
	joins(t, of(ints(-1, 5), ints(1, 0, 2, 0)), of(ints(-1, 6), ints(0, 3, 0)), of(ints(-1, 6), ints(1, 0, 2, 3, 0)))
}

// Where a rib stands between, or there is nothing to take away, an Anti stays; it may not, behind a mark.
func TestJoinStays(t *testing.T) {
	anti := of(ints(-1), ints(0))
	refused(t, anti, anti, api.ErrForm)
	refused(t, of(ints(-1), ints(2, 0)), of(ints(-1, 5), ints(0, 0)), api.ErrForm)
	refused(t, of(ints(5), ints(0, 2)), anti, api.ErrForm)
	refused(t, of(ints(5), ints(0)), of(ints(-1), ints(2, 0)), api.ErrForm)
	refused(t, of(ints(5), ints(0, 2)), of(ints(-1), ints(2, 0)), api.ErrForm)
	refused(t, of(ints(-1), ints(0, 2)), anti, api.ErrForm)
	refused(t, of(ints(-1), ints(0)), of(ints(-1), ints(2, 0)), api.ErrForm)
}

// What is not sound is refused on either side, and ahead of what is too large.
func TestJoinForm(t *testing.T) {
	bads := []wrap.Wrap{
		of(ints(0), ints(0)), of(ints(-2), ints(0)), of(ints(math.MinInt), ints(0)), of(ints(5, -1), ints(0, 0)), of(ints(-1, -1), ints(0, 0)), of(ints(5, 0), ints(0, 0)),
		of(ints(5), nil), of(nil, ints(0)), of(ints(5), ints(0, 0)), of(ints(5, 6), ints(0)), of(ints(5), ints(2)), of(ints(-1), nil),
		of(nil, ints(-1)), of(nil, ints(math.MinInt)), of(ints(5), ints(0, -1)), of(ints(5), ints(-1)),
		marked(api.MaxWrap+1, 1), ribbed(api.MaxWrap+1, 1),
		of(slices.Repeat(ints(0), api.MaxWrap), slices.Repeat(ints(0), api.MaxWrap)),
	}
	goods := []wrap.Wrap{{}, of(ints(5), ints(0)), of(ints(-1), ints(0)), of(nil, ints(2)), of(ints(5), ints(0, 2)), marked(api.MaxWrap, 1), ribbed(api.MaxWrap, 1)}
	for _, bad := range bads {
		for _, x := range append(goods, bads...) {
			refused(t, bad, x, api.ErrForm)
			refused(t, x, bad, api.ErrForm)
		}
	}
}

func TestJoinLarge(t *testing.T) {
	const most = api.MaxWrap
	one, anti, rib := of(ints(5), ints(0)), of(ints(-1), ints(0)), of(nil, ints(2))
	for n := range most + 1 {
		joins(t, marked(n, 1), marked(most-n, n+1), marked(most, 1))
		joins(t, ribbed(n, 1), ribbed(most-n, n+1), ribbed(most, 1))
		joins(t, marked(n, 1), ribbed(most-n, 1), of(marked(n, 1).Marks, append(slices.Repeat(ints(0), n), ribbed(most-n, 1).Subs...)))
		if n > 0 {
			refused(t, marked(n, 1), marked(most+1-n, 1), api.ErrLarge)
			refused(t, ribbed(n, 1), ribbed(most+1-n, 1), api.ErrLarge)
			refused(t, marked(n, 1), ribbed(most+1-n, 1), api.ErrLarge)
			refused(t, ribbed(n, 1), marked(most+1-n, 1), api.ErrLarge)
		}
	}
	refused(t, marked(most, 1), marked(most, 1), api.ErrLarge)
	// What was taken away does not count.
	joins(t, marked(most, 1), anti, marked(most-1, 1))
	full := of(append(ints(-1), marked(most-1, 2).Marks...), slices.Repeat(ints(0), most))
	joins(t, one, full, marked(most-1, 2))
	joins(t, of(ints(1, 5), ints(0, 0)), full, marked(most, 1))
	joins(t, of(ints(5), ints(2, 0)), full, of(marked(most-1, 2).Marks, append(ints(2), slices.Repeat(ints(0), most-1)...)))
	refused(t, of(ints(1, 5), ints(2, 0, 0)), full, api.ErrLarge)
	refused(t, marked(most, 1), full, api.ErrLarge)
	refused(t, marked(3, 1), full, api.ErrLarge)
	// Too large goes ahead of an Anti that may not be there.
	refused(t, anti, full, api.ErrLarge)
	refused(t, of(ints(5), ints(0, 2)), full, api.ErrLarge)
	refused(t, anti, of(ints(-1), append(ints(0), ribbed(most-1, 1).Subs...)), api.ErrLarge)
	refused(t, anti, of(ints(-1), append(ints(0), ribbed(most-2, 1).Subs...)), api.ErrForm)
	joins(t, rib, of(full.Marks[1:], full.Subs[1:]), of(marked(most-1, 2).Marks, append(ints(2), slices.Repeat(ints(0), most-1)...)))
	refused(t, rib, full, api.ErrLarge)
}

// P9.2

func TestMark(t *testing.T) {
	for _, n := range []int{api.Anti, 1, 2, 5, api.MaxWrap, math.MaxInt} {
		if w := wrap.Mark(n); !slices.Equal(w.Marks, ints(n)) || !slices.Equal(w.Subs, ints(api.Shift)) || !wrap.Sound(w) {
			t.Errorf("Mark(%d): %v", n, w)
		}
	}
	for _, n := range []int{0, -2, -3, math.MinInt} {
		if w := wrap.Mark(n); len(w.Marks)+len(w.Subs) != 0 {
			t.Errorf("Mark(%d): %v", n, w)
		}
	}
}

func TestRib(t *testing.T) {
	for _, n := range []int{1, 2, 5, api.MaxWrap, math.MaxInt} {
		if w := wrap.Rib(n); len(w.Marks) != 0 || !slices.Equal(w.Subs, ints(n)) || !wrap.Sound(w) {
			t.Errorf("Rib(%d): %v", n, w)
		}
	}
	for _, n := range []int{0, -1, -2, math.MinInt} {
		if w := wrap.Rib(n); len(w.Marks)+len(w.Subs) != 0 {
			t.Errorf("Rib(%d): %v", n, w)
		}
	}
}

// Both parts count, each thing at its place; whether they are sound is not asked.
func TestSame(t *testing.T) {
	parts := append(lists(2, math.MinInt, -1, 0, 1, 2), []int{}, ints(1, 2, 3), ints(1, 2, 4), marked(api.MaxWrap, 1).Marks, marked(api.MaxWrap+1, 1).Marks)
	same := func(a, b []int) bool { return strings.Join(written(a), " ") == strings.Join(written(b), " ") }
	for _, a := range parts {
		for _, b := range parts {
			for _, c := range parts {
				checkSame(t, of(a, c), of(b, c), same(a, b))
				checkSame(t, of(c, a), of(c, b), same(a, b))
				checkSame(t, of(a, b), of(b, a), same(a, b))
				checkSame(t, of(a, b), of(a, c), same(b, c))
				checkSame(t, of(a, c), of(b, nil), same(a, b) && len(c) == 0)
			}
		}
	}
	for _, a := range nothings() {
		for _, b := range nothings() {
			checkSame(t, a, b, true)
		}
	}
}

// checkSame holds Same of a and b, and of b and a, against want.
func checkSame(t *testing.T, a, b wrap.Wrap, want bool) {
	t.Helper()
	if wrap.Same(a, b) != want || wrap.Same(b, a) != want {
		t.Errorf("Same of %v and %v: not %v", a, b, want)
	}
}
