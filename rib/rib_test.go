package rib_test

import (
	"fmt"
	"math"
	"slices"
	"strings"
	"sync"
	"testing"

	"marginalia/api"
	"marginalia/num"
	"marginalia/rib"
	"marginalia/stx"
	"marginalia/wrap"
)

// What tests hand in.

func ints(n ...int) []int { return n }

// id is an identifier with these marks and substitutions.
func id(name string, marks, subs []int) api.Stx {
	return api.Stx{Kind: api.Symbol, Text: name, Marks: marks, Subs: subs}
}

// plain is an identifier without marks that has these ribs.
func plain(name string, ribs ...int) api.Stx { return id(name, nil, ribs) }

// marked is an identifier with these marks, and nothing but the Shifts that it needs for them.
func marked(name string, marks ...int) api.Stx {
	return id(name, marks, slices.Repeat(ints(api.Shift), len(marks)))
}

// strangers are no identifiers: what is no Symbol, and what is not sound.
func strangers() []api.Stx {
	all := []api.Stx{
		{}, {Kind: api.List}, {Kind: api.List, List: []api.Stx{plain("x")}}, {Kind: api.Dotted, List: []api.Stx{plain("x"), plain("x")}}, {Kind: api.Vector},
		{Kind: api.String, Text: "x"}, {Kind: api.Char, Text: "x"}, {Kind: api.Integer, Num: num.Of(1)}, {Kind: api.True}, {Kind: api.False}, {Kind: api.Void}, {Kind: api.Other, Text: "x"},
		{Kind: math.MaxInt, Text: "x"}, {Kind: math.MinInt, Text: "x"},
		plain(""), plain("1"), plain("x y"), plain("."), plain("\xFF"), plain(strings.Repeat("x", api.MaxName+1)), plain(strings.Repeat("x", 1<<20)),
		id("x", ints(5), nil), id("x", nil, ints(0)), id("x", ints(5), ints(1)), id("x", ints(5), ints(0, 0)), id("x", ints(5, 6), ints(0)),
		id("x", ints(0), ints(0)), id("x", ints(-2), ints(0)), id("x", ints(5, -1), ints(0, 0)), id("x", nil, ints(-1)), id("x", nil, ints(math.MinInt)), id("x", ints(math.MinInt), ints(0)),
		plain("x", slices.Repeat(ints(1), api.MaxWrap+1)...), marked("x", slices.Repeat(ints(1), api.MaxWrap+1)...), plain("x", make([]int, 1<<20)...),
		{Kind: api.Symbol, Text: "x", Num: num.Of(1)}, {Kind: api.Symbol, Text: "x", List: []api.Stx{plain("x")}},
	}
	for _, kind := range []int{api.Symbol, api.List, api.Vector} {
		round := api.Stx{Kind: kind, Text: "x", List: make([]api.Stx, 2)}
		round.List[0], round.List[1] = round, round
		all = append(all, round)
	}
	return all
}

// brief is an identifier, or another piece, in short.
func brief(x api.Stx) string {
	return fmt.Sprintf("{%d %.20q %v/%d %v/%d}", x.Kind, x.Text, x.Marks[:min(len(x.Marks), 6)], len(x.Marks), x.Subs[:min(len(x.Subs), 6)], len(x.Subs))
}

// ribs answers a Ribs with n ribs.
func ribs(t *testing.T, n int) *rib.Ribs {
	t.Helper()
	r := rib.New()
	for i := range n {
		if got := r.Rib(); got != i+1 {
			t.Fatalf("Rib %d: %d", i+1, got)
		}
	}
	return r
}

// The calls, each with its answer held against what it should be.

func puts(t *testing.T, r *rib.Ribs, n int, x api.Stx, label int, want api.Errno) {
	t.Helper()
	if e := r.Put(n, x, label); e != want {
		t.Errorf("Put of %s into rib %d with label %d: %d, not %d", brief(x), n, label, e, want)
	}
}
func finds(t *testing.T, r *rib.Ribs, x api.Stx, want int) {
	t.Helper()
	if label, e := r.Find(x); label != want || e != api.OK {
		t.Errorf("Find of %s: %d, %d, not %d", brief(x), label, e, want)
	}
}
func free(t *testing.T, r *rib.Ribs, a, b api.Stx, want bool) {
	t.Helper()
	if r.Free(a, b) != want || r.Free(b, a) != want {
		t.Errorf("Free of %s and %s: not %v", brief(a), brief(b), want)
	}
}
func bound(t *testing.T, a, b api.Stx, want bool) {
	t.Helper()
	if rib.Bound(a, b) != want || rib.Bound(b, a) != want {
		t.Errorf("Bound of %s and %s: not %v", brief(a), brief(b), want)
	}
}

// The chapter's example.
func TestExample(t *testing.T) {
	r := ribs(t, 1)
	puts(t, r, 1, plain("x"), 7, api.OK)
	finds(t, r, plain("x", 1), 7)
	finds(t, r, id("x", ints(5), ints(0, 1)), 7)
	finds(t, r, id("x", ints(5), ints(1, 0)), 0)
	finds(t, r, plain("x"), 0)
}

// P11.1

func TestNumbers(t *testing.T) {
	for _, r := range []*rib.Ribs{rib.New(), new(rib.Ribs)} {
		for i := 1; i < 1000; i++ { // each of the two counts by itself
			if got := r.Fresh(); got != i {
				t.Fatalf("Fresh: %d, not %d", got, i)
			}
			if i%3 > 0 {
				continue
			}
			if got := r.Rib(); got != i/3 {
				t.Fatalf("Rib: %d, not %d", got, i/3)
			}
			puts(t, r, i/3, plain("x"), math.MaxInt, api.OK) // labels are not those that Fresh gave
			puts(t, r, i/3, plain("x"), i, api.ErrForm)
			puts(t, r, i/3+1, plain("x"), i, api.ErrArg)
			finds(t, r, plain("y", i/3), 0)
		}
	}
}

// Two of them know nothing of one another.
func TestTwo(t *testing.T) {
	r, s := ribs(t, 3), ribs(t, 1)
	puts(t, r, 1, plain("x"), 7, api.OK)
	puts(t, r, 3, plain("y"), 8, api.OK)
	puts(t, s, 3, plain("y"), 8, api.ErrArg)
	puts(t, s, 1, plain("x"), 9, api.OK)
	finds(t, r, plain("x", 1), 7)
	finds(t, s, plain("x", 1), 9)
	finds(t, s, plain("y", 3), 0)
	if a, b, c := r.Fresh(), s.Fresh(), r.Fresh(); a != 1 || b != 1 || c != 2 {
		t.Errorf("%d, %d, %d", a, b, c)
	}
}

// Numbers that are asked for at one time are all given, each once.
func TestNumbersAtOneTime(t *testing.T) {
	const askers, each = 8, 2000
	r := rib.New()
	var rows [2 * askers][]int
	var all sync.WaitGroup
	for i := range askers {
		all.Go(func() {
			for range each {
				rows[i] = append(rows[i], r.Fresh())
				rows[askers+i] = append(rows[askers+i], r.Rib())
			}
		})
	}
	all.Wait()
	for _, numbers := range [][]int{slices.Concat(rows[:askers]...), slices.Concat(rows[askers:]...)} {
		slices.Sort(numbers)
		for i, n := range numbers {
			if n != i+1 {
				t.Fatalf("%d in the place of %d", n, i+1)
			}
		}
	}
}

func TestPutOfWrongs(t *testing.T) {
	r := ribs(t, 3)
	puts(t, r, 2, plain("x"), 7, api.OK)
	for _, n := range ints(math.MinInt, -1, 0, 4, 5, 1<<32+1, 1<<32+2, math.MaxInt) {
		puts(t, r, n, plain("x"), 7, api.ErrArg)
		puts(t, r, n, plain("y"), 1, api.ErrArg)
		puts(t, r, n, plain("x"), 0, api.ErrArg)
		puts(t, r, n, api.Stx{}, 1, api.ErrArg)
		finds(t, r, plain("y", max(n, 4)), 0)
	}
	for n := 1; n < 4; n++ {
		for _, label := range ints(math.MinInt, -7, -1, 0) {
			puts(t, r, n, plain("x"), label, api.ErrArg) // also where the entry is there
			puts(t, r, n, plain("y"), label, api.ErrArg)
		}
		for _, x := range strangers() {
			puts(t, r, n, x, 7, api.ErrArg)
		}
	}
	for n := range 5 { // and nothing of that is there
		finds(t, r, plain("x", n+1), []int{0, 7, 0, 0, 0}[n])
		finds(t, r, plain("y", n+1), 0)
	}
	puts(t, r, 1, plain("y"), 1, api.OK)
	puts(t, r, 3, plain("y"), math.MaxInt, api.OK)
	finds(t, r, plain("y", 1), 1)
	finds(t, r, plain("y", 2), 0)
	finds(t, r, plain("y", 3), math.MaxInt)
	if n := r.Rib(); n != 4 {
		t.Errorf("Rib: %d", n)
	}
	puts(t, r, 4, plain("x"), 7, api.OK)
}

// A rib has one entry for a name and its marks; where the piece stands, and its substitutions, do not count.
func TestPutAgain(t *testing.T) {
	r := ribs(t, 2)
	marks := [][]int{nil, {5}, {6}, {5, 6}, {6, 5}, {5, 5}, {5, 6, 5}, {-1}, {-1, 5}, {1}, {256}, {1, 256}, {256, 1}, {1 << 32}, {1 << 56}, {math.MaxInt}, {math.MaxInt - 1}}
	names := []string{"x", "y", "X", "xx", "\u03BB", "...", strings.Repeat("x", api.MaxName), strings.Repeat("x", api.MaxName-1) + "y"}
	label := 0
	for n := 1; n < 3; n++ {
		for _, name := range names {
			for _, list := range marks {
				label++
				puts(t, r, n, marked(name, list...), label, api.OK)
			}
		}
	}
	label = 0
	for n := 1; n < 3; n++ {
		for _, name := range names {
			for _, list := range marks {
				label++
				x := marked(name, list...)
				for _, other := range ints(label, label+1, 1, math.MaxInt) {
					puts(t, r, n, x, other, api.ErrForm)
				}
				x.Subs = append(ints(1, 9, 2), x.Subs...)
				x.At, x.List, x.Num.Limbs = 77, []api.Stx{}, []uint32{}
				puts(t, r, n, x, 3, api.ErrForm)
				x.Subs = append(ints(n), x.Subs[3:]...)
				finds(t, r, x, label)
			}
		}
	}
}

// P11.2

// Each rib is sought in its place: the first one that has the name and what is left of the marks there.
func TestFind(t *testing.T) {
	r := ribs(t, 5)
	puts(t, r, 1, plain("x"), 10, api.OK)
	puts(t, r, 2, plain("x"), 20, api.OK)
	puts(t, r, 2, plain("y"), 21, api.OK)
	puts(t, r, 3, marked("x", 5), 30, api.OK)
	puts(t, r, 4, marked("x", 6, 5), 40, api.OK)
	puts(t, r, 4, marked("x", -1, 5), 41, api.OK)
	finds(t, r, plain("x", 1, 2), 10)
	finds(t, r, plain("x", 2, 1), 20)
	finds(t, r, plain("y", 1, 2), 21)
	finds(t, r, plain("z", 1, 2), 0)
	finds(t, r, plain("x", 3, 4, 5, 9, math.MaxInt, 2, 1), 20)
	finds(t, r, plain("x", 3, 4, 5, 9, math.MaxInt), 0)
	finds(t, r, id("x", ints(5), ints(1, 3, 0, 1)), 30)
	finds(t, r, id("x", ints(6), ints(1, 3, 0, 1)), 10)
	finds(t, r, id("x", ints(6, 5), ints(0, 1, 3, 0, 1)), 30)
	finds(t, r, id("x", ints(6, 5), ints(1, 3, 4, 0, 1, 3, 0, 1)), 40)
	finds(t, r, id("x", ints(5, 6), ints(1, 3, 4, 0, 1, 3, 4, 0, 2, 1)), 20)
	finds(t, r, id("x", ints(5, 5), ints(3, 0, 4, 0, 4, 3)), 0)
	finds(t, r, id("x", ints(-1, 5), ints(3, 4, 0, 3, 0)), 41)
	finds(t, r, id("x", ints(-1, 5), ints(3, 0, 4, 3, 0)), 30)
	finds(t, r, id("x", ints(5, 6, 5), ints(4, 0, 4, 0, 4, 0, 4)), 40)
	finds(t, r, id("y", ints(5, 6, 5), ints(0, 0, 2, 0, 1, 2, 4)), 21)
	puts(t, r, 5, plain("x"), 50, api.OK) // what is put behind is found from then on
	finds(t, r, plain("x", 3, 4, 5, 9, math.MaxInt, 2, 1), 50)
}

// What pieces of syntax come to by Push is found as the example has it.
func TestFindOfPushed(t *testing.T) {
	r := ribs(t, 2)
	puts(t, r, 1, plain("x"), 7, api.OK)
	push := func(x api.Stx, ws ...wrap.Wrap) api.Stx {
		for _, w := range ws {
			y, e := stx.Push(x, w)
			if e != api.OK {
				t.Fatalf("Push of %s: %d", brief(x), e)
			}
			x = y
		}
		return x
	}
	anti, five := wrap.Mark(api.Anti), wrap.Mark(5)
	finds(t, r, push(plain("x"), wrap.Rib(1)), 7)
	finds(t, r, push(plain("x"), wrap.Rib(1), five), 7)
	finds(t, r, push(plain("x"), five, wrap.Rib(1)), 0)
	finds(t, r, push(plain("x"), anti, five, wrap.Rib(1)), 7)
	finds(t, r, push(plain("x"), anti, wrap.Rib(1)), 0)
	once := push(plain("x"), five, wrap.Rib(2))
	puts(t, r, 2, once, 8, api.OK)
	finds(t, r, once, 8)
	finds(t, r, push(plain("x"), wrap.Rib(2)), 0)
	finds(t, r, push(plain("x"), wrap.Mark(6), wrap.Rib(2)), 0)
	finds(t, r, push(plain("x"), wrap.Rib(1), five, wrap.Rib(2)), 8)
	finds(t, r, push(plain("x"), wrap.Rib(1), wrap.Mark(6), wrap.Rib(2)), 7)
}

func TestFindOfWrongs(t *testing.T) {
	r := ribs(t, 1)
	puts(t, r, 1, plain("x"), 7, api.OK)
	for _, x := range strangers() {
		if label, e := r.Find(x); label != 0 || e != api.ErrArg {
			t.Errorf("Find of %s: %d, %d", brief(x), label, e)
		}
		for _, y := range []api.Stx{plain("x"), plain("x", 1), x} {
			free(t, r, x, y, false)
			bound(t, x, y, false)
		}
	}
}

// As many marks and ribs as may be.
func TestFindOfGreats(t *testing.T) {
	r := ribs(t, 300)
	all := slices.Repeat(ints(math.MaxInt), api.MaxWrap)
	full := marked("x", all...)
	puts(t, r, 300, full, 1, api.OK)
	puts(t, r, 300, full, 2, api.ErrForm)
	all = slices.Clone(all)
	all[api.MaxWrap-1]--
	puts(t, r, 300, marked("x", all...), 2, api.OK)
	puts(t, r, 300, marked("x", all[1:]...), 3, api.OK)
	finds(t, r, full, 0)
	x := id("x", all[:api.MaxWrap-1], append(ints(300), slices.Repeat(ints(0), api.MaxWrap-1)...))
	finds(t, r, x, 0)
	puts(t, r, 300, x, 4, api.OK)
	finds(t, r, x, 4)
	finds(t, r, id("x", all[1:], append(ints(300), slices.Repeat(ints(0), api.MaxWrap-1)...)), 3)
	puts(t, r, 300, plain("x"), 5, api.OK)
	finds(t, r, id("x", all[1:], append(slices.Repeat(ints(0), api.MaxWrap-1), 300)), 5)
	var far []int
	for n := range api.MaxWrap {
		far = append(far, 300+api.MaxWrap-1-n)
	}
	finds(t, r, plain("x", far...), 5)
	finds(t, r, plain("x", far[:api.MaxWrap-1]...), 0)
}

func TestFree(t *testing.T) {
	r := ribs(t, 4)
	puts(t, r, 1, plain("x"), 7, api.OK)
	puts(t, r, 2, plain("x"), 8, api.OK)
	puts(t, r, 3, plain("y"), 7, api.OK)
	puts(t, r, 4, marked("x", 5), 7, api.OK)
	for _, a := range []api.Stx{plain("x", 1), plain("y", 3), id("x", ints(5), ints(4, 0)), id("x", ints(6), ints(2, 0, 1)), plain("x", 1, 2)} {
		for _, b := range []api.Stx{plain("x", 1), plain("y", 3), id("x", ints(5), ints(4, 0))} {
			free(t, r, a, b, true) // one label, whatever the names
		}
		for _, b := range []api.Stx{plain("x", 2), plain("x", 2, 1), plain("x"), plain("y"), plain("y", 1), id("x", ints(5), ints(1, 0))} {
			free(t, r, a, b, false)
		}
	}
	for _, a := range []api.Stx{plain("x"), marked("x", 5), plain("x", 3, 9), marked("x", 5, 6), marked("x", -1)} {
		for _, b := range []api.Stx{plain("x"), marked("x", 6), plain("x", 4)} {
			free(t, r, a, b, true) // no label, one name
		}
		for _, b := range []api.Stx{plain("y"), plain("X"), plain("xx"), plain("y", 1, 2), marked("y", 5), plain("\u03BB")} {
			free(t, r, a, b, false)
		}
	}
}

func TestCopy(t *testing.T) {
	r := ribs(t, 2)
	puts(t, r, 1, plain("x"), 7, api.OK)
	r.Fresh()
	c := r.Copy()
	puts(t, r, 1, plain("y"), 8, api.OK)
	puts(t, c, 1, plain("y"), 9, api.OK)
	puts(t, c, 1, plain("x"), 9, api.ErrForm)
	puts(t, c, 2, plain("x"), 10, api.OK)
	puts(t, r, 2, plain("z"), 11, api.OK)
	finds(t, r, plain("x", 1), 7)
	finds(t, c, plain("x", 1), 7)
	finds(t, r, plain("y", 1), 8)
	finds(t, c, plain("y", 1), 9)
	finds(t, r, plain("x", 2), 0)
	finds(t, c, plain("x", 2), 10)
	finds(t, r, plain("z", 2), 11)
	finds(t, c, plain("z", 2), 0)
	free(t, r, plain("x", 2), plain("x"), true)
	free(t, c, plain("x", 2), plain("x"), false)
	for i := range 5 {
		if a, b := r.Fresh(), r.Rib(); a != i+2 || b != i+3 {
			t.Errorf("%d, %d", a, b)
		}
	}
	puts(t, c, 3, plain("x"), 7, api.ErrArg)
	for i := range 5 { // as many as there were, and not those of the other one
		if a, b := c.Fresh(), c.Rib(); a != i+2 || b != i+3 {
			t.Errorf("%d, %d", a, b)
		}
	}
	puts(t, c, 7, plain("x"), 7, api.OK)
	puts(t, c, 8, plain("x"), 7, api.ErrArg)
}

func TestCopyOfEmpties(t *testing.T) {
	for _, r := range []*rib.Ribs{rib.New(), new(rib.Ribs)} {
		c := r.Copy()
		puts(t, c, 1, plain("x"), 7, api.ErrArg)
		if n, m := c.Rib(), c.Fresh(); n != 1 || m != 1 {
			t.Errorf("%d, %d", n, m)
		}
		puts(t, c, 1, plain("x"), 7, api.OK)
		finds(t, c, plain("x", 1), 7)
		puts(t, r, 1, plain("x"), 7, api.ErrArg)
		finds(t, r, plain("x", 1), 0)
	}
}

func TestNil(t *testing.T) {
	var r *rib.Ribs
	if r.Rib() != 0 || r.Fresh() != 0 || r.Copy() != nil {
		t.Error("a nil Ribs gives something")
	}
	for _, x := range append(strangers(), plain("x"), plain("x", 1), marked("x", 5)) {
		puts(t, r, 1, x, 7, api.ErrArg)
		puts(t, r, 0, x, 0, api.ErrArg)
		if label, e := r.Find(x); label != 0 || e != api.ErrArg {
			t.Errorf("Find of %s: %d, %d", brief(x), label, e)
		}
		free(t, r, x, x, false)
		free(t, r, x, plain("x"), false)
	}
}

// P11.3

func TestBound(t *testing.T) {
	marks := [][]int{nil, {5}, {6}, {5, 6}, {6, 5}, {5, 5}, {-1}, {-1, 5}, {math.MaxInt}, {1}, {256}}
	names := []string{"x", "y", "X", "xx", "\u03BB"}
	for i, list := range marks {
		for j, name := range names {
			for k, other := range marks {
				for l, called := range names {
					a, b := marked(name, list...), marked(called, other...)
					bound(t, a, b, i == k && j == l)
					b.Subs, b.At = slices.Concat(ints(3), b.Subs, ints(4, 4)), 9 // neither substitutions nor places count
					bound(t, a, b, i == k && j == l)
				}
			}
		}
	}
	bound(t, api.Stx{Kind: api.Symbol, Text: "x", Marks: []int{}, Subs: []int{}, List: []api.Stx{}}, plain("x"), true)
	full := slices.Repeat(ints(1), api.MaxWrap)
	bound(t, marked("x", full...), marked("x", full...), true)
	bound(t, marked("x", full...), marked("x", full[1:]...), false)
}

// Memory

// roomy answers a list of the same numbers with room to spare, in which stand numbers of their own.
func roomy(list []int) []int {
	spare := append(slices.Clone(list), 71, 72, 73, 74)
	return spare[:len(list)]
}

// What is handed in is neither changed nor kept.
func TestMemory(t *testing.T) {
	r := ribs(t, 2)
	x := id("x", roomy(ints(5, 6)), roomy(ints(1, 0, 2, 0)))
	marks, subs := x.Marks[:cap(x.Marks)], x.Subs[:cap(x.Subs)]
	before := slices.Concat(marks, subs)
	puts(t, r, 1, x, 7, api.OK)
	puts(t, r, 1, x, 7, api.ErrForm)
	finds(t, r, x, 7)
	free(t, r, x, x, true)
	bound(t, x, x, true)
	if !slices.Equal(before, slices.Concat(marks, subs)) {
		t.Errorf("%v, %v", marks, subs)
	}
	c := r.Copy()
	x.Marks[0], x.Subs[0] = 8, 2
	for _, r := range []*rib.Ribs{r, c} {
		finds(t, r, id("x", ints(5, 6), ints(1, 0, 0)), 7)
		finds(t, r, id("x", ints(8, 6), ints(1, 0, 0)), 0)
		puts(t, r, 1, id("x", ints(8, 6), ints(1, 0, 0)), 9, api.OK)
		puts(t, r, 1, id("x", ints(5, 6), ints(1, 0, 0)), 9, api.ErrForm)
	}
}
