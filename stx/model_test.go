package stx_test

import (
	"fmt"
	"math/rand"
	"slices"
	"strings"
	"testing"

	"marginalia/api"
	"marginalia/read"
	"marginalia/stx"
	"marginalia/wrap"
)

// A word-by-word reading of the chapter: a piece is a list of all that is in it, each thing with all the wraps from the outermost one to its own.
type place struct {
	x     api.Stx
	wraps []wrap.Wrap
}

// places are x and all that is in it; it is known to have an end.
func places(x api.Stx) []place {
	all := []place{{x, []wrap.Wrap{worn(x)}}}
	for i := 0; i < len(all); i++ {
		for _, in := range all[i].x.List {
			all = append(all, place{in, append(slices.Clone(all[i].wraps), worn(in))})
		}
	}
	return all
}

// joined is what wraps come to, from the first one on; false, if they do not, in one step.
func joined(wraps []wrap.Wrap) (wrap.Wrap, bool) {
	var w wrap.Wrap
	for _, next := range wraps {
		both, e := wrap.Join(w, next)
		if e != api.OK || !wrap.Sound(next) {
			return wrap.Wrap{}, false
		}
		w = both
	}
	return w, true
}

// isSound tells if x is sound, as the chapter says.
func isSound(x api.Stx) bool {
	if !read.Sound(stripped(x)) {
		return false
	}
	for _, p := range places(x) {
		if _, ok := joined(p.wraps); !ok || p.x.Kind == api.Other {
			return false
		}
	}
	return true
}

// meaning is what x, which is sound, means, as a text: its datum, and at each symbol its wrap.
func meaning(x api.Stx, around ...wrap.Wrap) string {
	wraps := append(slices.Clone(around), worn(x))
	text := fmt.Sprintf("%d %q %v %v", x.Kind, x.Text, x.Num.Neg, append([]uint32{}, x.Num.Limbs...))
	if x.Kind == api.Symbol {
		w, _ := joined(wraps)
		text += fmt.Sprint(append([]int{}, w.Marks...), append([]int{}, w.Subs...))
	}
	var in []string
	for _, y := range x.List {
		in = append(in, meaning(y, wraps...))
	}
	return "(" + text + " [" + strings.Join(in, " ") + "])"
}

// check holds each call that takes x against the reading.
func check(t *testing.T, x api.Stx) {
	t.Helper()
	want := isSound(x)
	sound(t, want, x)
	if !want {
		return
	}
	strips(t, x, stripped(x))
	means := meaning(x)
	opened, e := stx.Open(x)
	if e != api.OK || meaning(opened) != means || !isSound(opened) || !alike(stripped(opened), stripped(x)) {
		t.Errorf("Open of %s: %s, %d", brief(x), brief(opened), e)
	}
	checkOpened(t, x, opened)
	flat, e := stx.Flat(x)
	if e != api.OK || meaning(flat) != means || !isSound(flat) || !alike(stripped(flat), stripped(x)) {
		t.Errorf("Flat of %s: %s, %d", brief(x), brief(flat), e)
	}
	for _, p := range places(flat) {
		if p.x.Kind != api.Symbol && !wrap.Same(worn(p.x), wrap.Wrap{}) {
			t.Errorf("Flat of %s: %s", brief(x), brief(flat))
		}
	}
	same(t, x, opened, true)
	same(t, x, flat, true)
	same(t, opened, flat, true)
}

// checkOpened holds what Open answered of x against each wrap that stands in it.
func checkOpened(t *testing.T, x, opened api.Stx) {
	t.Helper()
	if len(x.List) == 0 && !stx.Compound(x) {
		comes(t, "Open", opened, api.OK, x)
		return
	}
	want := in(wrap.Wrap{}, x)
	want.List = slices.Clone(x.List)
	for i, y := range want.List {
		w, _ := wrap.Join(worn(x), worn(y))
		want.List[i] = in(w, y)
	}
	comes(t, "Open", opened, api.OK, want)
}

// checkPush holds Push against the reading.
func checkPush(t *testing.T, x api.Stx, w wrap.Wrap) {
	t.Helper()
	if !isSound(x) || !wrap.Sound(w) {
		pushless(t, x, w, api.ErrForm)
		return
	}
	both, e := wrap.Join(w, worn(x))
	if e != api.OK {
		pushless(t, x, w, e)
		return
	}
	want := in(both, x)
	if !isSound(want) {
		pushless(t, x, w, api.ErrLarge)
		return
	}
	pushes(t, x, w, want)
}

// someWraps are wraps of each sort, the last one not sound.
func someWraps() []wrap.Wrap {
	return []wrap.Wrap{{}, wrap.Mark(5), wrap.Mark(api.Anti), wrap.Rib(2), of(ints(5), ints(0, 2)), of(ints(-1), ints(2, 0)), of(ints(-1, 6), ints(0, 0)), marked(2, 5), of(ints(5), nil)}
}

// smalls are pieces in each shape of up to three that stand in one another, in all wraps.
func smalls() []api.Stx {
	ws := someWraps()
	var ones, twos, all []api.Stx
	for _, w := range ws {
		ones = append(ones, in(w, sym("a")), in(w, str("a")), in(w, list()))
		for _, v := range ws {
			twos = append(twos, in(w, list(in(v, sym("a")))), in(w, vector(in(v, sym("b")), sym("a"))), in(w, dotted(in(v, str("a")), in(v, sym("a")))))
		}
	}
	for i, x := range twos {
		w := ws[i%len(ws)]
		for _, v := range ws {
			all = append(all, in(v, list(x)), in(v, vector(sym("a"), x)), in(v, dotted(x, in(w, sym("b")))), in(v, list(in(w, x), x)))
		}
	}
	return slices.Concat(ones, twos, all)
}

func TestSmalls(t *testing.T) {
	pushed := 0
	for _, x := range smalls() {
		x = placed(x)
		check(t, x)
		for _, w := range someWraps() {
			checkPush(t, x, w)
			pushed++
		}
	}
	if pushed < 8000 {
		t.Errorf("only %d", pushed)
	}
}

// Two pieces are the same if, and only if, they mean the same.
func TestSameOfSmalls(t *testing.T) {
	var kept []api.Stx
	var means []string
	for _, x := range smalls() {
		if isSound(x) {
			kept, means = append(kept, x), append(means, meaning(x))
		}
	}
	alike := 0
	for i, a := range kept {
		for j, b := range kept[:i] {
			want := means[i] == means[j]
			if !want && (i+j)%30 > 0 { // most are not the same
				continue
			}
			if stx.Same(a, b) != want {
				t.Fatalf("Same of %s and %s: not %v", brief(a), brief(b), want)
			}
			if want {
				alike++
			}
		}
	}
	if alike < 200 {
		t.Errorf("only %d of %d are the same", alike, len(kept))
	}
}

// random is a piece of up to many things, in wraps that may come to some size.
func random(r *rand.Rand, many, size int) api.Stx {
	w := []wrap.Wrap{{}, {}, wrap.Mark(1 + r.Intn(3)), wrap.Rib(1 + r.Intn(3)), wrap.Mark(api.Anti), marked(1+r.Intn(size), 1), ribbed(1+r.Intn(size), 1)}[r.Intn(7)]
	if many <= 1 || r.Intn(5) == 0 {
		all := leaves()
		return in(w, all[r.Intn(len(all))])
	}
	x := group(groups()[r.Intn(3)])
	for many--; many > 0; {
		n := 1 + r.Intn(many)
		x.List = append(x.List, random(r, n, size))
		many -= n
	}
	return in(w, x)
}

func TestRandom(t *testing.T) {
	r := rand.New(rand.NewSource(10))
	good := 0
	for range 6000 {
		x := placed(random(r, 1+r.Intn(20), 1+r.Intn(90)))
		check(t, x)
		checkPush(t, x, worn(random(r, 1, 256)))
		if isSound(x) {
			good++
		}
	}
	if good < 1500 || good > 5000 {
		t.Errorf("%d of 6000 are sound", good)
	}
}

// What was Pushed and Opened step by step means the same as what was Pushed at once.
func TestOrderOfSteps(t *testing.T) {
	for _, x := range smalls() {
		for _, w := range someWraps() {
			pushed, e := stx.Push(x, w)
			if e != api.OK {
				continue
			}
			opened, e := stx.Open(x)
			if e != api.OK {
				t.Fatalf("Open of %s: %d", brief(x), e)
			}
			again, e := stx.Push(opened, w)
			if e == api.OK {
				same(t, pushed, again, true)
			}
			flat, _ := stx.Flat(x)
			again, e = stx.Push(flat, w)
			if e == api.OK {
				same(t, pushed, again, true)
			}
		}
	}
}

// Memory

// roomy is x with memory of its own, each list of it with room to spare, in which stand things of their own.
func roomy(x api.Stx) api.Stx {
	x.Num.Limbs = append(slices.Clone(x.Num.Limbs), 91, 92)[:len(x.Num.Limbs)]
	x.Marks = append(slices.Clone(x.Marks), 93, 94)[:len(x.Marks)]
	x.Subs = append(slices.Clone(x.Subs), 95, 96)[:len(x.Subs)]
	n := len(x.List)
	x.List = append(slices.Clone(x.List), sym("spare"), sym("room"))[:n]
	for i, in := range x.List {
		x.List[i] = roomy(in)
	}
	return x
}

// room is what all lists of x have in all of their room, as a text.
func room(x api.Stx) string {
	text := fmt.Sprint(x.Kind, x.Text, x.At, x.Num.Limbs[:cap(x.Num.Limbs)], x.Marks[:cap(x.Marks)], x.Subs[:cap(x.Subs)])
	for _, in := range x.List[:cap(x.List)] {
		text += "(" + room(in) + ")"
	}
	return text
}

// spoil writes over all lists of x, spare room among it, and tells if one of them had been written over.
func spoil(x api.Stx) bool {
	shared := false
	for _, in := range x.List {
		shared = spoil(in) || shared
	}
	for _, list := range [][]int{x.Marks[:cap(x.Marks)], x.Subs[:cap(x.Subs)]} {
		for i := range list {
			shared = shared || list[i] == spoilt
			list[i] = spoilt
		}
	}
	limbs, pieces := x.Num.Limbs[:cap(x.Num.Limbs)], x.List[:cap(x.List)]
	for i := range limbs {
		shared = shared || limbs[i] == spoilt
		limbs[i] = spoilt
	}
	for i := range pieces {
		shared = shared || pieces[i].At == spoilt
		pieces[i] = api.Stx{At: spoilt}
	}
	return shared
}

// spoilt is what stands nowhere else.
const spoilt = 987654321

// answers are what the calls that answer pieces answer of x.
func answers(x api.Stx) []api.Stx {
	pushed, _ := stx.Push(x, wrap.Mark(9))
	opened, _ := stx.Open(x)
	flat, _ := stx.Flat(x)
	d, _ := stx.Strip(x)
	made, _ := stx.Of(d, worn(x))
	return []api.Stx{pushed, opened, flat, made, bare(d)}
}

// TestMemory: what is handed in is neither changed nor kept, and what is answered shares nothing, also among itself.
func TestMemory(t *testing.T) {
	great := leaves()[7]
	shared := wrap.Mark(5)
	for _, inner := range leaves() {
		x := in(marked(3, 1), list(in(shared, sym("a")), vector(great, in(shared, inner), sym("c")), in(shared, sym("d")), sym("e"), dotted(inner, sym("f"))))
		for _, x := range []api.Stx{x, in(shared, inner), in(wrap.Wrap{}, list(x)), inner} {
			x = roomy(placed(x))
			before := room(x)
			first, second, want := answers(x), answers(x), answers(copied(x))
			stx.Sound(x)
			stx.Same(x, x)
			stx.Ident(x)
			for i := range first {
				if spoil(first[i]) {
					t.Fatalf("answer %d of %s shares memory", i, brief(x))
				}
			}
			if room(x) != before {
				t.Fatalf("%s was changed", brief(x))
			}
			spoil(x)
			for i := range second {
				if !identical(second[i], want[i]) {
					t.Fatalf("answer %d of %s hangs on what was handed in, or answered ahead", i, brief(x))
				}
			}
		}
	}
}

// copied is x with memory of its own.
func copied(x api.Stx) api.Stx {
	x.Num.Limbs, x.Marks, x.Subs = slices.Clone(x.Num.Limbs), slices.Clone(x.Marks), slices.Clone(x.Subs)
	x.List = slices.Clone(x.List)
	for i, in := range x.List {
		x.List[i] = copied(in)
	}
	return x
}

// What Strip and Of answer of a datum, and by a wrap, hangs on neither.
func TestMemoryOfDatums(t *testing.T) {
	for _, d := range datums(t) {
		w := of(append(ints(1, 2), 3)[:2], append(ints(0, 0, 4), 5)[:3])
		x, e := stx.Of(d, w)
		want := copied(x)
		if e != api.OK {
			t.Fatal(e)
		}
		first, _ := stx.Strip(x)
		second, _ := stx.Strip(x)
		spoilDatum(first)
		w.Marks[0], w.Subs[0] = 8, 8
		if !identical(x, want) || !alike(second, stripped(want)) {
			t.Errorf("%s, %s", brief(x), brief(second))
		}
		spoil(x)
		if !alike(second, stripped(want)) {
			t.Errorf("%s", brief(second))
		}
		spoilDatum(d)
		if !alike(second, stripped(want)) {
			t.Errorf("%s", brief(second))
		}
	}
}

// spoilDatum writes over all lists of d, spare room among it.
func spoilDatum(d api.Datum) {
	for _, in := range d.List {
		spoilDatum(in)
	}
	clear(d.List[:cap(d.List)])
	clear(d.Num.Limbs[:cap(d.Num.Limbs)])
}
