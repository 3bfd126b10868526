package tmpl_test

import (
	"maps"
	"math/rand"
	"slices"
	"strings"
	"testing"

	"marginalia/api"
	"marginalia/pat"
	"marginalia/rib"
	"marginalia/stx"
	"marginalia/tmpl"
	"marginalia/wrap"
)

// A word-by-word reading of the chapter. All pieces that it looks at have been Pushed by what stands around them.
type model struct{ binds []api.Bind }

// inside answers what stands in x, each thing Pushed by x's wrap.
func inside(x api.Stx) []api.Stx {
	var all []api.Stx
	for _, y := range x.List {
		w, _ := wrap.Join(of(x.Marks, x.Subs), of(y.Marks, y.Subs))
		all = append(all, in(w, y))
	}
	return all
}

// place is that of the first bind as whose Name x is Bound, or -1.
func (m model) place(x api.Stx) int {
	if x.Kind != api.Symbol {
		return -1
	}
	return slices.IndexFunc(m.binds, func(b api.Bind) bool { return b.Name.Text == x.Text && rib.Bound(b.Name, x) })
}

// sound tells if all binds are.
func (m model) sound() bool {
	for i, b := range m.binds {
		if !stx.Ident(b.Name) || b.Depth < 0 || b.Depth > api.MaxDepth || !soundTree(b.Depth, b.Tree) {
			return false
		}
		for _, c := range m.binds[:i] {
			if rib.Bound(b.Name, c.Name) {
				return false
			}
		}
	}
	return true
}

func soundTree(depth int, tree api.Tree) bool {
	if depth == 0 {
		return !tree.Many && stx.Sound(tree.One)
	}
	for _, in := range tree.All {
		if !soundTree(depth-1, in) {
			return false
		}
	}
	return tree.Many
}

func (m model) ellipsis(x api.Stx) bool {
	return x.Kind == api.Symbol && x.Text == "..." && m.place(x) < 0
}

// escape tells if x is a List of an ellipsis and one more thing.
func (m model) escape(x api.Stx) bool {
	return x.Kind == api.List && len(x.List) == 2 && m.ellipsis(inside(x)[0])
}

// uses are the places of the binds in x.
func (m model) uses(x api.Stx) map[int]bool {
	uses := map[int]bool{}
	if place := m.place(x); place >= 0 {
		uses[place] = true
	}
	for _, y := range inside(x) {
		maps.Copy(uses, m.uses(y))
	}
	return uses
}

// A thing is something in a List, Dotted or Vector, with how many ellipses stand behind it.
type thing struct {
	x        api.Stx
	ellipses int
}

// things are those in x, where ellipses are ellipses, or where they are not; false, if one stands where nothing is ahead of it.
func (m model) things(x api.Stx, plain bool) ([]thing, bool) {
	var things []thing
	for i, y := range inside(x) {
		switch {
		case plain || !m.ellipsis(y):
			things = append(things, thing{y, 0})
		case i == 0 || x.Kind == api.Dotted && i == len(x.List)-1:
			return nil, false
		default:
			things[len(things)-1].ellipses++
		}
	}
	return things, true
}

// may tells if x, which stands behind so many ellipses, may be at all.
func (m model) may(x api.Stx, behind int, plain bool) bool {
	switch {
	case m.place(x) >= 0:
		return m.binds[m.place(x)].Depth <= behind
	case !plain && m.ellipsis(x):
		return false
	case !plain && m.escape(x):
		return m.may(inside(x)[1], behind, true)
	}
	things, ok := m.things(x, plain)
	if !ok {
		return false
	}
	for _, y := range things {
		for i := range y.ellipses {
			some := false
			for place := range m.uses(y.x) {
				some = some || m.binds[place].Depth > behind+i
			}
			if !some {
				return false
			}
		}
		if !m.may(y.x, behind+y.ellipses, plain) {
			return false
		}
	}
	return true
}

// untouched tells if nothing in x is anything else than it is.
func (m model) untouched(x api.Stx, plain bool) bool {
	if m.place(x) >= 0 || !plain && m.ellipsis(x) {
		return false
	}
	return !slices.ContainsFunc(inside(x), func(y api.Stx) bool { return !m.untouched(y, plain) })
}

// come answers what x comes to, with these Trees; false, if some are not of one length.
func (m model) come(x api.Stx, trees map[int]api.Tree, plain bool) (api.Stx, bool) {
	switch {
	case m.place(x) >= 0:
		return trees[m.place(x)].One, true
	case m.untouched(x, plain):
		return x, true
	case !plain && m.escape(x):
		return m.come(inside(x)[1], trees, true)
	}
	var in []api.Stx
	things, _ := m.things(x, plain)
	for _, y := range things {
		some, ok := m.through(y, trees, plain)
		if !ok {
			return api.Stx{}, false
		}
		in = append(in, some...)
	}
	whole := api.Stx{Kind: x.Kind, At: x.At, List: in}
	if x.Kind != api.Dotted {
		return whole, true
	}
	last := in[len(in)-1]
	switch {
	case len(in) == 1:
		return last, true
	case last.Kind == api.List || last.Kind == api.Dotted:
		whole.Kind, whole.List = last.Kind, append(in[:len(in)-1], inside(last)...)
	}
	return whole, true
}

// through answers what a thing comes to, gone through as often as it has ellipses.
func (m model) through(y thing, trees map[int]api.Tree, plain bool) ([]api.Stx, bool) {
	if y.ellipses == 0 {
		x, ok := m.come(y.x, trees, plain)
		return []api.Stx{x}, ok
	}
	length := -1
	for place := range m.uses(y.x) {
		if tree := trees[place]; tree.Many {
			if length >= 0 && length != len(tree.All) {
				return nil, false
			}
			length = len(tree.All)
		}
	}
	var all []api.Stx
	for i := range length {
		each := maps.Clone(trees)
		for place := range m.uses(y.x) {
			if tree := trees[place]; tree.Many {
				each[place] = tree.All[i]
			}
		}
		some, ok := m.through(thing{y.x, y.ellipses - 1}, each, plain)
		if !ok {
			return nil, false
		}
		all = append(all, some...)
	}
	return all, true
}

// fill answers what Fill should.
func (m model) fill(x api.Stx) (api.Stx, api.Errno) {
	if !stx.Sound(x) || !m.sound() {
		return api.Stx{}, api.ErrForm
	}
	if !m.may(x, 0, false) {
		return api.Stx{}, api.ErrSyntax
	}
	trees := map[int]api.Tree{}
	for i, b := range m.binds {
		trees[i] = b.Tree
	}
	y, ok := m.come(x, trees, false)
	switch {
	case !ok:
		return api.Stx{}, api.ErrSyntax
	case !stx.Sound(y):
		return api.Stx{}, api.ErrLarge
	}
	return y, api.OK
}

// hold holds what Fill and Uses answer against the reading, and answers the error.
func (m model) hold(t *testing.T, x api.Stx) api.Errno {
	t.Helper()
	want, e := m.fill(x)
	if got, f := tmpl.Fill(x, m.binds...); f != e || exact(got) != exact(want) {
		t.Fatalf("Fill of %s: %d, %s, not %d, %s", exact(x), f, exact(got), e, exact(want))
	}
	var places []int
	if e != api.ErrForm {
		places = slices.Sorted(maps.Keys(m.uses(x)))
	}
	if got, f := tmpl.Uses(x, m.binds...); (f == api.ErrForm) != (e == api.ErrForm) || f != api.OK && f != api.ErrForm || !slices.Equal(got, places) {
		t.Fatalf("Uses of %s: %d, %v, not %v", exact(x), f, got, places)
	}
	return e
}

// groupsOf answers the groups of each kind of up to most of those things; of the Dotted ones those that may be.
func groupsOf(most int, things ...api.Stx) []api.Stx {
	rows := [][]api.Stx{nil}
	for at := 0; at < len(rows) && len(rows[at]) < most; at++ {
		for _, x := range things {
			rows = append(rows, append(slices.Clone(rows[at]), x))
		}
	}
	var all []api.Stx
	for _, row := range rows {
		all = append(all, list(row...), vector(row...))
		if n := len(row); n >= 2 && row[n-1].Kind != api.List && row[n-1].Kind != api.Dotted {
			all = append(all, dotted(row...))
		}
	}
	return all
}

// All small templates, with binds of several kinds.
func TestSmalls(t *testing.T) {
	templates := groupsOf(4, all("a c d ... 7")...)
	templates = append(templates, groupsOf(3, append(all("a c k ... () (... ...) (c ...) (q . ...) #(... d)"), marked(sym("c"), 5), marked(sym("..."), 5))...)...)
	for _, x := range groupsOf(3, all("c d ...")...) {
		templates = append(templates, groupsOf(2, x, sym("..."), sym("k"))...)
		templates = append(templates, list(sym("..."), x), list(x, sym("..."), sym("...")), list(list(x, sym("...")), sym("...")), dotted(x, sym("..."), sym("a")), list(sym("q"), list(sym("..."), x), sym("...")))
	}
	counts := map[api.Errno]int{}
	for _, binds := range [][]api.Bind{
		with("a 1 c* (2 3) d** ((4 5) (6)) k* (7 8)"), with("a (x y) c* () d** () k* ((1) 2)"), with("a (x . y) c* ((1 2) 3 ()) d** (() (1) ()) k* ()"), with("c 1 d* (2 3) k** ((4) (5 (6)))"),
		append(with("... 9 c* (1 2) a* (3 4)"), named(marked(sym("c"), 5), with("c* (5 6)")[0])), append(with("d 9 k*** (((1) ()) ((2 3)))"), named(marked(sym("..."), 5), with("c* (5 6)")[0])), with("d* ((x) (y . z))"),
	} {
		m := model{binds}
		for _, x := range templates {
			counts[m.hold(t, placed(x))]++
		}
	}
	if counts[api.OK] < 3000 || counts[api.ErrSyntax] < 10000 {
		t.Errorf("%d templates: %v", len(templates), counts)
	}
}

// A maker makes templates and binds at random, which mostly go together.
type maker struct{ *rand.Rand }

// worn gives x a wrap now and then.
func (m maker) worn(x api.Stx) api.Stx {
	switch m.Intn(16) {
	case 0:
		return marked(x, 1+m.Intn(2))
	case 1:
		return ribbed(x, 1+m.Intn(2))
	case 2:
		return in(of(ints(1), ints(1, 0)), x)
	case 3:
		return marked(x, api.Anti)
	}
	return x
}

// piece is what a variable may stand for.
func (m maker) piece() api.Stx {
	return m.worn(all(`1 x "a" () (x 1) (y . x) (x (y 1) . #(x)) #(1 (y)) (quote ... a)`)[m.Intn(9)])
}

// lengths are how many Trees there are on each level: all binds have them so, that they mostly go together.
type lengths struct {
	many []lengths
}

func (m maker) lengths(depth int) lengths {
	var l lengths
	if depth == 0 {
		return l
	}
	for range m.Intn(4) {
		l.many = append(l.many, m.lengths(depth-1))
	}
	return l
}

// tree is one of that Depth.
func (m maker) tree(depth int, l lengths) api.Tree {
	if depth == 0 {
		return leaf(m.piece())
	}
	tree := many()
	for _, in := range l.many {
		tree.All = append(tree.All, m.tree(depth-1, in))
	}
	if m.Intn(12) == 0 {
		tree.All = append(tree.All, m.tree(depth-1, m.lengths(depth-1)))
	}
	return tree
}

// binds are some, of all Depths.
func (m maker) binds() []api.Bind {
	l := m.lengths(3)
	var binds []api.Bind
	for i, name := range []string{"a", "b", "c", "d", "e", "f", "g", "h"} {
		depth := i / 2
		binds = append(binds, api.Bind{Name: sym(name), Depth: depth, Tree: m.tree(depth, l)})
		if m.Intn(3) == 0 {
			depth := m.Intn(4)
			binds = append(binds, api.Bind{Name: marked(sym(name), 1+m.Intn(2)), Depth: depth, Tree: m.tree(depth, l)})
		}
	}
	if m.Intn(9) == 0 {
		binds = append(binds, api.Bind{Name: sym("..."), Tree: m.tree(0, l)})
	}
	m.Shuffle(len(binds), func(i, j int) { binds[i], binds[j] = binds[j], binds[i] })
	return binds
}

// template is one of about so many things, which stands behind so many ellipses.
func (m maker) template(size, behind int) api.Stx {
	if size <= 1 {
		switch m.Intn(5) {
		case 0:
			return m.piece()
		case 1:
			return m.worn(sym([]string{"q", "x", "..."}[m.Intn(29)/14]))
		}
		return m.worn(sym([]string{"a", "b", "c", "d", "e", "f", "g", "h"}[m.Intn(min(behind+1, 4)*2)]))
	}
	x := group([]int{api.List, api.List, api.Dotted, api.Vector}[m.Intn(4)])
	if m.Intn(8) == 0 {
		return m.worn(list(sym("..."), m.template(size-1, behind)))
	}
	for left := size - 1; left > 0; {
		n, ellipses := 1+m.Intn(left), max(0, m.Intn(8)-5)
		y := m.template(n, behind+ellipses)
		if ellipses > 0 && m.Intn(3) > 0 { // with something to go through
			y = list(y, sym([]string{"a", "c", "e", "g"}[min(behind+ellipses, 3)]))
		}
		x.List = append(x.List, y)
		for range ellipses {
			x.List = append(x.List, m.worn(sym("...")))
		}
		left -= n
	}
	if n := len(x.List); x.Kind == api.Dotted && (n < 2 || x.List[n-1].Kind == api.List || x.List[n-1].Kind == api.Dotted) {
		x.Kind = api.List
	}
	return m.worn(x)
}

func TestRandom(t *testing.T) {
	random := maker{rand.New(rand.NewSource(13))}
	counts, through, apart := map[api.Errno]int{}, 0, 0
	for range 3500 {
		m := model{random.binds()}
		for range 3 {
			x := placed(random.template(1+random.Intn(12), 0))
			e := m.hold(t, x)
			counts[e]++
			if e == api.OK && strings.Contains(text(x), "...") {
				through++
			}
			if e == api.ErrSyntax && m.may(x, 0, false) {
				apart++
			}
		}
	}
	if counts[api.OK] < 4000 || counts[api.ErrSyntax] < 4000 || counts[api.ErrForm] < 100 || through < 2000 || apart < 60 {
		t.Errorf("%v, %d with ellipses, %d not of one length", counts, through, apart)
	}
}

// What a pattern matched comes of it again, as a template, with what its variables stand for.
func TestPatternsAsTemplates(t *testing.T) {
	random := maker{rand.New(rand.NewSource(14))}
	patterns := all(`a (a) (a b) (a ...) (a ... b) (a b ... . c) (a . b) ((a b) ...) ((a ...) ...) (a (b #(c ...)) ... . d) ((a b ... . c) ... d) #((a . b) ... c) (((a ...) ...) ...) (a ... . b) ((a . b) ...) (7 a (x . b) ...)`)
	done := 0
	for range 8000 {
		p := patterns[random.Intn(len(patterns))]
		x := random.like(p)
		binds, ok, e := pat.Match(rib.New(), p, x, sym("x"))
		if !ok || e != api.OK {
			continue
		}
		if y, e := tmpl.Fill(p, binds...); e != api.OK || !stx.Same(x, y) {
			t.Fatalf("%s and %s: %d, %s", text(p), exact(x), e, exact(y))
		}
		done++
	}
	if done < 4000 {
		t.Errorf("only %d", done)
	}
}

// like is a piece that p may match. Marks and ribs stand at what variables match alone, for the pattern has none.
func (m maker) like(p api.Stx) api.Stx {
	if !stx.Compound(p) {
		if p.Kind == api.Symbol && p.Text != "x" {
			return marked(m.piece(), 3)
		}
		return p
	}
	x := group(p.Kind)
	for i, q := range p.List {
		times := 1
		switch {
		case q.Text == "...":
			times = 0
		case i+1 < len(p.List) && p.List[i+1].Text == "...":
			times = m.Intn(4)
		}
		for range times {
			x.List = append(x.List, m.like(q))
		}
	}
	if n := len(x.List); x.Kind == api.Dotted && (n < 2 || x.List[n-1].Kind == api.List || x.List[n-1].Kind == api.Dotted || m.Intn(2) == 0) {
		x.Kind = api.List
	}
	return x
}
