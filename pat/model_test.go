package pat_test

import (
	"math/rand"
	"slices"
	"testing"

	"marginalia/api"
	"marginalia/pat"
	"marginalia/rib"
	"marginalia/stx"
	"marginalia/wrap"
)

// A word-by-word reading of the chapter. All pieces that it looks at have been Pushed by what stands around them.
type model struct {
	r        *rib.Ribs
	literals []api.Stx
}

// inside answers what stands in x, each thing Pushed by x's wrap.
func inside(x api.Stx) []api.Stx {
	var all []api.Stx
	for _, y := range x.List {
		w, _ := wrap.Join(of(x.Marks, x.Subs), of(y.Marks, y.Subs))
		all = append(all, in(w, y))
	}
	return all
}

func (m model) isLiteral(p api.Stx) bool {
	return p.Kind == api.Symbol && slices.ContainsFunc(m.literals, func(x api.Stx) bool { return rib.Bound(p, x) })
}
func (m model) isEllipsis(p api.Stx) bool {
	return p.Kind == api.Symbol && p.Text == "..." && !m.isLiteral(p)
}
func (m model) isWild(p api.Stx) bool {
	return p.Kind == api.Symbol && p.Text == "_" && !m.isLiteral(p)
}
func (m model) isVariable(p api.Stx) bool {
	return p.Kind == api.Symbol && !m.isLiteral(p) && !m.isEllipsis(p) && !m.isWild(p)
}

// vars are p's variables in order, p standing behind so many ellipses.
func (m model) vars(p api.Stx, depth int) []api.Bind {
	if m.isVariable(p) {
		return []api.Bind{{Name: p, Depth: depth}}
	}
	var all []api.Bind
	within := inside(p)
	for i, q := range within {
		if i+1 < len(within) && m.isEllipsis(within[i+1]) {
			all = append(all, m.vars(q, depth+1)...)
			continue
		}
		all = append(all, m.vars(q, depth)...)
	}
	return all
}

// ellipsesMay tells if each ellipsis in p stands where it may.
func (m model) ellipsesMay(p api.Stx) bool {
	count := 0
	for i, q := range inside(p) {
		if !m.isEllipsis(q) {
			if !m.ellipsesMay(q) {
				return false
			}
			continue
		}
		count++
		if i == 0 || p.Kind == api.Dotted && i == len(p.List)-1 {
			return false
		}
	}
	return count <= 1
}

// may tells if p is a pattern that may be.
func (m model) may(p api.Stx) bool {
	vars := m.vars(p, 0)
	for i, a := range vars {
		for _, b := range vars[:i] {
			if rib.Bound(a.Name, b.Name) {
				return false
			}
		}
	}
	return !m.isEllipsis(p) && m.ellipsesMay(p)
}

// match answers the trees of p's variables.
func (m model) match(p, x api.Stx) ([]api.Tree, bool) {
	switch {
	case m.isWild(p):
		return nil, true
	case m.isVariable(p):
		return []api.Tree{{One: x}}, true
	case m.isLiteral(p):
		return nil, m.r.Free(p, x)
	case !stx.Compound(p):
		a, _ := stx.Strip(p)
		b, _ := stx.Strip(x)
		a.At, b.At = 0, 0
		return nil, p.Kind == x.Kind && a.Text == b.Text && a.Num.Neg == b.Num.Neg && slices.Equal(a.Num.Limbs, b.Num.Limbs)
	case p.Kind == api.Vector || p.Kind == api.List:
		if p.Kind != x.Kind {
			return nil, false
		}
		return m.row(inside(p), inside(x))
	case x.Kind == api.List || x.Kind == api.Dotted:
		return m.dotted(p, x)
	}
	return nil, false
}

// row matches some patterns, an ellipsis among them or not, with some things: what stands ahead of it has as many of them as makes all match.
func (m model) row(ps, xs []api.Stx) ([]api.Tree, bool) {
	switch {
	case len(ps) == 0:
		return nil, len(xs) == 0
	case len(ps) == 1 || !m.isEllipsis(ps[1]):
		if len(xs) == 0 {
			return nil, false
		}
		first, ok := m.match(ps[0], xs[0])
		others, all := m.row(ps[1:], xs[1:])
		return append(first, others...), ok && all
	}
	for n := range len(xs) + 1 {
		others, ok := m.row(ps[2:], xs[n:])
		if first, all := m.each(ps[0], xs[:n]); ok && all {
			return append(first, others...), true
		}
	}
	return nil, false
}

// each matches p with each of xs.
func (m model) each(p api.Stx, xs []api.Stx) ([]api.Tree, bool) {
	trees := make([]api.Tree, len(m.vars(p, 0)))
	for i := range trees {
		trees[i].Many = true
	}
	for _, x := range xs {
		ones, ok := m.match(p, x)
		if !ok {
			return nil, false
		}
		for i, one := range ones {
			trees[i].All = append(trees[i].All, one)
		}
	}
	return trees, true
}

// dotted matches p, which is Dotted, with x, which is a List or Dotted.
func (m model) dotted(p, x api.Stx) ([]api.Tree, bool) {
	ps, xs := inside(p), inside(x)
	last := ps[len(ps)-1]
	ps = ps[:len(ps)-1]
	behind := api.Stx{Kind: api.List, At: x.At} // what stands behind x's dot
	if x.Kind == api.Dotted {
		behind = xs[len(xs)-1]
		xs = xs[:len(xs)-1]
	}
	rest := behind
	if !slices.ContainsFunc(ps, m.isEllipsis) {
		if len(xs) < len(ps) {
			return nil, false
		}
		if left := xs[len(ps):]; len(left) > 0 {
			rest = api.Stx{Kind: x.Kind, At: x.At, List: slices.Clone(left)}
			if x.Kind == api.Dotted {
				rest.List = append(rest.List, behind)
			}
		}
		xs = xs[:len(ps)]
	}
	trees, ok := m.row(ps, xs)
	others, all := m.match(last, rest)
	return append(trees, others...), ok && all
}

// hold holds what Check and Match answer against the reading, and tells if x is matched.
func (m model) hold(t *testing.T, p, x api.Stx) (may, ok bool) {
	t.Helper()
	if !m.may(p) {
		refused(t, api.ErrSyntax, p, m.literals...)
		return false, false
	}
	want := m.vars(p, 0)
	vars, e := pat.Check(p, m.literals...)
	if e != api.OK || exactBinds(vars) != exactBinds(want) {
		t.Fatalf("Check of %s: %d, %s, not %s", text(p), e, exactBinds(vars), exactBinds(want))
	}
	trees, ok := m.match(p, x)
	if !ok {
		unmatched(t, api.OK, m.r, p, x, m.literals...)
		return true, false
	}
	for i, tree := range trees {
		want[i].Tree = tree
	}
	if got := matched(t, m.r, p, x, m.literals...); len(trees) != len(want) || exactBinds(got) != exactBinds(want) {
		t.Fatalf("Match of %s and %s: %s, not %s", text(p), text(x), exactBinds(got), exactBinds(want))
	}
	return true, true
}

// groupsOf answers the groups of each kind of up to most of those things; of the Dotted ones those that may be.
func groupsOf(most int, things ...api.Stx) []api.Stx {
	rows := [][]api.Stx{nil}
	for at := 0; at < len(rows) && len(rows[at]) < most; at++ {
		for _, x := range things {
			rows = append(rows, append(slices.Clone(rows[at]), x))
		}
	}
	var all []api.Stx
	for _, row := range rows {
		all = append(all, group(api.List, row...), group(api.Vector, row...))
		if n := len(row); n >= 2 && row[n-1].Kind != api.List && row[n-1].Kind != api.Dotted {
			all = append(all, group(api.Dotted, row...))
		}
	}
	return all
}

// All small patterns, each with pieces enough to match most of them.
func TestSmalls(t *testing.T) {
	r := rand.New(rand.NewSource(12))
	things := append(all("a b ... _ else 1"), one("(c ...)"), marked(sym("a"), 5), one("(d . e)"), one("#(f)"))
	patterns := groupsOf(3, things...)
	for _, x := range groupsOf(2, all("a ... _")...) {
		patterns = append(patterns, groupsOf(2, x, sym("..."), sym("b"))...)
	}
	xs := groupsOf(4, append(all("else 1 () (1) (1 else)"), marked(one("(else . 1)"), 5), one("#(1)"))...)
	xs = append(xs, all("a else 1 ...")...)
	may, ok := 0, 0
	for _, literals := range [][]api.Stx{all("else"), all("else _"), append(all("... a else"), marked(sym("a"), 5))} {
		m := model{rib.New(), literals}
		for _, p := range patterns {
			for range 7 {
				one, two := m.hold(t, placed(p), placed(xs[r.Intn(len(xs))]))
				if one {
					may++
				}
				if two {
					ok++
				}
			}
		}
	}
	if may < 14000 || ok < 1000 {
		t.Errorf("%d patterns, %d may be, %d match", len(patterns), may, ok)
	}
}

// A maker makes patterns at random, and pieces that mostly match them.
type maker struct {
	*rand.Rand
	names int
}

// worn gives x a wrap now and then.
func (m *maker) worn(x api.Stx) api.Stx {
	switch m.Intn(12) {
	case 0:
		return marked(x, 1+m.Intn(2))
	case 1:
		return ribbed(x, 1+m.Intn(2))
	case 2:
		return in(of(ints(1), ints(1, 0)), x)
	case 3:
		return marked(x, api.Anti)
	}
	return x
}

// leaf is something without pieces in it.
func (m *maker) leaf() api.Stx {
	return all(`1 1 1 "a" #\a else else => x y () #()`)[m.Intn(12)]
}

// pattern is one of about so many things.
func (m *maker) pattern(many int) api.Stx {
	if many <= 1 {
		switch m.Intn(8) {
		case 0:
			return m.worn(m.leaf())
		case 1:
			return m.worn(all("_ else")[m.Intn(2)])
		}
		m.names++
		return m.worn(sym([]string{"a", "b", "c", "d", "e", "f", "g", "h", "i", "j"}[(m.names+m.Intn(50)/49)%10]))
	}
	p := group([]int{api.List, api.List, api.Dotted, api.Vector}[m.Intn(4)])
	for left := many - 1; left > 0; {
		n := 1 + m.Intn(left)
		p.List = append(p.List, m.pattern(n))
		left -= n
	}
	if m.Intn(2) == 0 {
		at := 1 + m.Intn(len(p.List))
		p.List = slices.Insert(p.List, at, m.worn(sym("...")))
		if m.Intn(9) > 0 { // most ellipses have no mark
			p.List[at] = sym("...")
		}
	}
	if n := len(p.List); p.Kind == api.Dotted && (n < 2 || p.List[n-1].Kind == api.List || p.List[n-1].Kind == api.Dotted) {
		p.Kind = api.List
	}
	return m.worn(p)
}

// piece is one that p matches, but now and then not.
func (m *maker) piece(p api.Stx) api.Stx {
	if m.Intn(40) == 0 {
		return m.worn(m.leaf())
	}
	if !stx.Compound(p) {
		if p.Kind == api.Symbol && p.Text != "else" && p.Text != "=>" {
			return m.worn([]api.Stx{m.leaf(), one("(x 1)"), one("(y . x)"), marked(one("#(1)"), 2)}[m.Intn(4)])
		}
		return in(wrap.Wrap{}, p)
	}
	x := group(p.Kind)
	for i, q := range p.List {
		n := 1
		switch {
		case q.Text == "...":
			n = 0
		case i+1 < len(p.List) && p.List[i+1].Text == "...":
			n = m.Intn(4)
		}
		for range n {
			x.List = append(x.List, m.piece(q))
		}
	}
	if p.Kind == api.Dotted {
		x.Kind = api.List
		if n := len(x.List); n > 1 && x.List[n-1].Kind != api.List && x.List[n-1].Kind != api.Dotted && m.Intn(2) == 0 {
			x.Kind = api.Dotted
		} else if m.Intn(2) == 0 && n > 0 {
			x.List = x.List[:n-1]
		}
	}
	return m.worn(x)
}

func TestRandom(t *testing.T) {
	random := &maker{Rand: rand.New(rand.NewSource(13))}
	m := model{rib.New(), append(all("else => x"), marked(sym("else"), 1), marked(sym("y"), 2))}
	for i := range 3 {
		n := m.r.Rib()
		m.r.Put(n, sym("else"), 7+i)
		m.r.Put(n, sym("x"), 7)
		m.r.Put(n, marked(sym("else"), 1), 8)
	}
	may, ok, bad := 0, 0, 0
	for range 12000 {
		p := placed(random.pattern(1 + random.Intn(14)))
		x := placed(random.piece(p))
		if !stx.Sound(p) {
			refused(t, api.ErrForm, p, m.literals...)
			bad++
			continue
		}
		if !stx.Sound(x) {
			bad++
			continue
		}
		one, two := m.hold(t, p, x)
		if one {
			may++
		}
		if two {
			ok++
		}
	}
	if may < 5000 || ok < 2000 || bad < 200 || bad > 4000 {
		t.Errorf("%d may be, %d match, %d are not sound", may, ok, bad)
	}
}

// What matches with wraps matches with all of it Pushed, too, and has the Trees Pushed, where the pattern asks for no names.
func TestPushed(t *testing.T) {
	random := &maker{Rand: rand.New(rand.NewSource(14))}
	w := of(ints(8), ints(5, 0, 6))
	done := 0
	for range 5000 {
		p := placed(random.pattern(1 + random.Intn(10)))
		x := placed(random.piece(p))
		pushed, e := stx.Push(x, w)
		if e != api.OK {
			continue
		}
		r := rib.New()
		before, ok, e := pat.Match(r, p, x)
		after, all, f := pat.Match(r, p, pushed)
		if ok != all || e != f {
			t.Fatalf("%s and %s: %v, %d, and Pushed %v, %d", text(p), text(x), ok, e, all, f)
		}
		for i := range after {
			if !samePushed(before[i].Tree, after[i].Tree, w) {
				t.Fatalf("%s and %s: %s, and Pushed %s", text(p), text(x), exactTree(before[i].Tree), exactTree(after[i].Tree))
			}
			done++
		}
	}
	if done < 3000 {
		t.Errorf("only %d", done)
	}
}

// samePushed tells if b is a tree like a, in which each piece means what a's Pushed by w means.
func samePushed(a, b api.Tree, w wrap.Wrap) bool {
	if a.Many || b.Many {
		return a.Many == b.Many && slices.EqualFunc(a.All, b.All, func(a, b api.Tree) bool { return samePushed(a, b, w) })
	}
	pushed, e := stx.Push(a.One, w)
	return e == api.OK && stx.Same(pushed, b.One)
}
