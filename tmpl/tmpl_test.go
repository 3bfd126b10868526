package tmpl_test

import (
	"fmt"
	"math"
	"runtime"
	"slices"
	"strings"
	"testing"

	"marginalia/api"
	"marginalia/print"
	"marginalia/read"
	"marginalia/stx"
	"marginalia/tmpl"
	"marginalia/wrap"
)

// The pieces that tests hand in.

// all answers the pieces of a text, without wraps.
func all(text string) []api.Stx {
	datums, at, e := read.Read([]byte(text), api.MaxDepth)
	if e != api.OK {
		panic(fmt.Sprintf("%.200q: error %d at %d", text, e, at))
	}
	var list []api.Stx
	for _, d := range datums {
		x, _ := stx.Of(d, wrap.Wrap{})
		list = append(list, x)
	}
	return list
}

// one answers the one piece of a text.
func one(text string) api.Stx { return all(text)[0] }

func sym(name string) api.Stx { return api.Stx{Kind: api.Symbol, Text: name} }
func group(kind int, in ...api.Stx) api.Stx {
	return api.Stx{Kind: kind, List: in}
}
func list(in ...api.Stx) api.Stx   { return group(api.List, in...) }
func dotted(in ...api.Stx) api.Stx { return group(api.Dotted, in...) }
func vector(in ...api.Stx) api.Stx { return group(api.Vector, in...) }

func ints(n ...int) []int            { return n }
func of(marks, subs []int) wrap.Wrap { return wrap.Wrap{Marks: marks, Subs: subs} }

// in is x with w in the place of its wrap.
func in(w wrap.Wrap, x api.Stx) api.Stx {
	x.Marks, x.Subs = w.Marks, w.Subs
	return x
}

// marked is x with these marks.
func marked(x api.Stx, marks ...int) api.Stx {
	return in(of(marks, slices.Repeat(ints(api.Shift), len(marks))), x)
}

// ribbed is x with these ribs.
func ribbed(x api.Stx, ribs ...int) api.Stx { return in(of(nil, ribs), x) }

// standing is x, but at that place.
func standing(at int, x api.Stx) api.Stx {
	x.At = at
	return x
}

// placed is x with memory of its own, each piece in it standing somewhere else.
func placed(x api.Stx) api.Stx {
	at := 0
	return stood(x, &at)
}

func stood(x api.Stx, at *int) api.Stx {
	*at += 3
	x.At = *at
	x.Num.Limbs, x.Marks, x.Subs = slices.Clone(x.Num.Limbs), slices.Clone(x.Marks), slices.Clone(x.Subs)
	x.List = slices.Clone(x.List)
	for i := range x.List {
		x.List[i] = stood(x.List[i], at)
	}
	return x
}

// nested is x within n lists.
func nested(n int, x api.Stx) api.Stx {
	for range n {
		x = list(x)
	}
	return x
}

// strangers are pieces that are not sound.
func strangers() []api.Stx {
	bads := []api.Stx{
		{}, {Kind: api.Other, Text: "x"}, {Kind: math.MaxInt}, {Kind: math.MinInt}, sym(""), sym("1"), sym("x y"), sym("\xFF"), sym(strings.Repeat("x", api.MaxName+1)),
		{Kind: api.Char}, {Kind: api.String, Text: "\xFF"}, {Kind: api.True, Text: "x"}, {Kind: api.Integer, Num: api.Int{Neg: true}},
		dotted(sym("x")), dotted(), dotted(sym("x"), list()), {Kind: api.List, Text: "x"}, {Kind: api.Symbol, Text: "x", List: []api.Stx{sym("x")}},
		marked(sym("x"), 0), marked(sym("x"), 5, -1), in(of(ints(5), nil), sym("x")), in(of(nil, ints(0)), sym("x")), ribbed(sym("x"), -1),
		marked(sym("x"), slices.Repeat(ints(1), api.MaxWrap+1)...), in(of(ints(5), nil), list()), in(of(nil, ints(-1)), api.Stx{Kind: api.True}),
		marked(list(marked(sym("x"), -1, 5)), -1), marked(list(marked(sym("x"), slices.Repeat(ints(1), api.MaxWrap)...)), 1),
		list(slices.Repeat([]api.Stx{sym("x")}, api.MaxNodes)...), nested(api.MaxDepth, sym("x")),
	}
	for _, kind := range []int{api.List, api.Dotted, api.Vector} {
		for _, bad := range bads[:len(bads):len(bads)] {
			bads = append(bads, group(kind, sym("x"), bad, sym("y")))
		}
		round := group(kind, make([]api.Stx, 2)...)
		round.List[0], round.List[1] = round, round
		bads = append(bads, round)
	}
	return bads
}

// leaf and many are trees.
func leaf(x api.Stx) api.Tree         { return api.Tree{One: x} }
func many(trees ...api.Tree) api.Tree { return api.Tree{Many: true, All: trees} }

// grown is the tree of that Depth of which x tells: each list as deep as that is Many.
func grown(depth int, x api.Stx) api.Tree {
	if depth == 0 {
		return leaf(x)
	}
	tree := many()
	for _, y := range x.List {
		tree.All = append(tree.All, grown(depth-1, y))
	}
	return tree
}

// bind is one of that name, with a star behind it for each ellipsis.
func bind(name string, tree api.Stx) api.Bind {
	bare := strings.TrimRight(name, "*")
	depth := len(name) - len(bare)
	return api.Bind{Name: sym(bare), Depth: depth, Tree: grown(depth, tree)}
}

// with are the binds of a text: names and trees.
func with(text string) []api.Bind {
	var binds []api.Bind
	for pair := range slices.Chunk(all(text), 2) {
		binds = append(binds, bind(pair[0].Text, pair[1]))
	}
	return binds
}

// usual are the binds of most tests.
func usual() []api.Bind {
	return with(`a 1 b (x y) e () f (x . y) v #(1)
		c* (1 2 3) k* (4 5 6) s* (7 8) n* () m* ((1 2) () (3 . 4))
		d** ((1 2) () (3)) g** ((4 5) () (6)) h** ((4 5) ()) i** ((4) () (5 6)) o** (() () ())
		t*** (((1) (2 3)) () (() (4)))`)
}

// named is the bind with that Name in the place of its own.
func named(name api.Stx, b api.Bind) api.Bind {
	b.Name = name
	return b
}

// What tests tell of pieces.

// text is the datum of x as a text.
func text(x api.Stx) string {
	d, e := stx.Strip(x)
	s, f := print.Print(d)
	if e != api.OK || f != api.OK {
		return fmt.Sprintf("<error %d, %d: kind %d, %.40q, %d in it>", e, f, x.Kind, x.Text, len(x.List))
	}
	return s[:min(len(s), 1000)]
}

// exact is all that stands in x, wraps and places too, as a text.
func exact(x api.Stx) string {
	var s strings.Builder
	var tell func(x api.Stx)
	tell = func(x api.Stx) {
		fmt.Fprint(&s, "{", x.Kind, x.Text, " ", x.Num.Neg, " ", append([]uint32{}, x.Num.Limbs...), x.At, append([]int{}, x.Marks...), append([]int{}, x.Subs...))
		for _, in := range x.List {
			tell(in)
		}
		s.WriteString("}")
	}
	tell(x)
	return s.String()
}

// The calls, each with its answer held against what it should be.

// refused tells of it if Fill does not answer that error, and nothing beside.
func refused(t *testing.T, want api.Errno, template api.Stx, binds ...api.Bind) {
	t.Helper()
	if x, e := tmpl.Fill(template, binds...); e != want || exact(x) != exact(api.Stx{}) {
		t.Errorf("Fill of %.200s: %.200s, %d, not %d", text(template), text(x), e, want)
	}
}

// unsound tells of it if Fill and Uses do not both answer ErrForm, and nothing beside.
func unsound(t *testing.T, template api.Stx, binds ...api.Bind) {
	t.Helper()
	refused(t, api.ErrForm, template, binds...)
	if places, e := tmpl.Uses(template, binds...); e != api.ErrForm || len(places) != 0 {
		t.Errorf("Uses of %.200s: %d places, %d", text(template), len(places), e)
	}
}

// filled answers what comes of the template.
func filled(t *testing.T, template api.Stx, binds ...api.Bind) api.Stx {
	t.Helper()
	x, e := tmpl.Fill(template, binds...)
	if e != api.OK || !stx.Sound(x) {
		t.Fatalf("Fill of %.200s: %.200s, %d", text(template), text(x), e)
	}
	return x
}

// fills holds the datum that comes of the template against want.
func fills(t *testing.T, template api.Stx, want string, binds ...api.Bind) {
	t.Helper()
	if got := text(filled(t, template, binds...)); got != want {
		t.Errorf("Fill of %.200s: %.500s, not %.500s", text(template), got, want)
	}
}

// comes holds what comes of the template against want, with its wraps and places.
func comes(t *testing.T, template, want api.Stx, binds ...api.Bind) {
	t.Helper()
	if got := exact(filled(t, template, binds...)); got != exact(want) {
		t.Errorf("Fill of %.200s: %.500s, not %.500s", text(template), got, exact(want))
	}
}

// uses holds what Uses answers against want.
func uses(t *testing.T, template api.Stx, want []int, binds ...api.Bind) {
	t.Helper()
	if places, e := tmpl.Uses(template, binds...); e != api.OK || !slices.Equal(places, want) {
		t.Errorf("Uses of %.200s: %v, %d, not %v", text(template), places, e, want)
	}
}

// The chapter's example.
func TestExample(t *testing.T) {
	template := one("(let ((n v) ...) b)")
	fills(t, template, "(let ((x 1) (y (f 2))) (g x y))", with("n* (x y) v* (1 (f 2)) b (g x y)")...)
	fills(t, template, "(let () 7)", with("n* () v* () b 7")...)
	refused(t, api.ErrSyntax, template, with("n* (x y) v* (1) b 7")...)
}

// P13.1

// rows fills each template of the rows with the usual binds.
func rows(t *testing.T, rows [][2]string) {
	t.Helper()
	for _, row := range rows {
		fills(t, one(row[0]), row[1], usual()...)
	}
}

func TestIdentifiers(t *testing.T) {
	rows(t, [][2]string{
		{"a", "1"}, {"b", "(x y)"}, {"e", "()"}, {"f", "(x . y)"}, {"v", "#(1)"},
		{"q", "q"}, {"_", "_"}, {"aa", "aa"}, {"A", "A"}, {"7", "7"}, {`"a"`, `"a"`}, {`#\a`, `#\a`}, {"#t", "#t"}, {"#f", "#f"}, {"()", "()"}, {"#()", "#()"}, {"-100000000000000000000", "-100000000000000000000"},
		{"(a)", "(1)"}, {"(a q b)", "(1 q (x y))"}, {"(a a a)", "(1 1 1)"}, {"#(a q)", "#(1 q)"}, {"(q . a)", "(q . 1)"}, {"(a . q)", "(1 . q)"}, {"(q #(a (b 7)) . v)", "(q #(1 ((x y) 7)) . #(1))"},
		{"(q (q #(q) . q) 7)", "(q (q #(q) . q) 7)"}, {"(quote a)", "(quote 1)"}, {"(.. a ....)", "(.. 1 ....)"},
	})
	fills(t, one("(a b)"), "(a b)")
	fills(t, api.Stx{Kind: api.Void}, text(api.Stx{Kind: api.Void}), usual()...)
	comes(t, list(sym("a"), api.Stx{Kind: api.Void}), list(api.Stx{Kind: api.Void}, api.Stx{Kind: api.Void}), api.Bind{Name: sym("a"), Tree: leaf(api.Stx{Kind: api.Void})})
}

func TestEllipses(t *testing.T) {
	rows(t, [][2]string{
		{"(c ...)", "(1 2 3)"}, {"#(c ...)", "#(1 2 3)"}, {"(c ... . q)", "(1 2 3 . q)"}, {"(q c ... r)", "(q 1 2 3 r)"}, {"#(q c ... r)", "#(q 1 2 3 r)"}, {"(q c ... r . p)", "(q 1 2 3 r . p)"},
		{"(n ...)", "()"}, {"#(n ...)", "#()"}, {"(q n ... r)", "(q r)"}, {"((n ...))", "(())"}, {"((q n) ...)", "()"}, {"(m ...)", "((1 2) () (3 . 4))"},
		{"(c ... k ...)", "(1 2 3 4 5 6)"}, {"(c ... s ... n ... c ...)", "(1 2 3 7 8 1 2 3)"}, {"((c q) ... (s q) ...)", "((1 q) (2 q) (3 q) (7 q) (8 q))"}, {"(c ... (c ...))", "(1 2 3 (1 2 3))"},
		{"((c) ...)", "((1) (2) (3))"}, {"(#(q (c)) ...)", "(#(q (1)) #(q (2)) #(q (3)))"}, {"((q . c) ...)", "((q . 1) (q . 2) (q . 3))"}, {"((c . q) ... . r)", "((1 . q) (2 . q) (3 . q) . r)"},
		{"((c k) ...)", "((1 4) (2 5) (3 6))"}, {"((c (k #(c))) ...)", "((1 (4 #(1))) (2 (5 #(2))) (3 (6 #(3))))"}, {"(a (q (c ... 7)))", "(1 (q (1 2 3 7)))"},
		{"((a c b) ...)", "((1 1 (x y)) (1 2 (x y)) (1 3 (x y)))"}, {"((a n b) ...)", "()"},
		{"((d ...) ...)", "((1 2) () (3))"}, {"(#(q d ...) ...)", "(#(q 1 2) #(q) #(q 3))"}, {"((d ... q) ... r)", "((1 2 q) (q) (3 q) r)"}, {"(((d) ...) ...)", "(((1) (2)) () ((3)))"}, {"((((d ...))) ...)", "((((1 2))) ((())) (((3))))"},
		{"((d ... g ...) ...)", "((1 2 4 5) () (3 6))"}, {"(((d g) ...) ...)", "(((1 4) (2 5)) () ((3 6)))"}, {"((d ... i ...) ...)", "((1 2 4) () (3 5 6))"}, {"((o ...) ...)", "(() () ())"},
		{"(((t ...) ...) ...)", "(((1) (2 3)) () (() (4)))"},
	})
}

// Several ellipses behind one thing: what it comes to stands one behind the other.
func TestEllipsesBehindOneAnother(t *testing.T) {
	rows(t, [][2]string{
		{"(d ... ...)", "(1 2 3)"}, {"#(d ... ...)", "#(1 2 3)"}, {"(q d ... ... r . p)", "(q 1 2 3 r . p)"}, {"((q d) ... ...)", "((q 1) (q 2) (q 3))"}, {"(o ... ...)", "()"}, {"((d g) ... ...)", "((1 4) (2 5) (3 6))"},
		{"(t ... ... ...)", "(1 2 3 4)"}, {"((t ... ...) ...)", "((1 2 3) () (4))"}, {"((t ...) ... ...)", "((1) (2 3) () (4))"}, {"(d ... ... c ...)", "(1 2 3 1 2 3)"},
	})
}

// A variable behind more ellipses than its Depth is gone through at the outermost ones.
func TestDepthsApart(t *testing.T) {
	rows(t, [][2]string{
		{"((c d ...) ...)", "((1 1 2) (2) (3 3))"}, {"((c d) ... ...)", "((1 1) (1 2) (3 3))"}, {"(((c d) ...) ...)", "(((1 1) (1 2)) () ((3 3)))"}, {"((c (k a d) ...) ...)", "((1 (4 1 1) (4 1 2)) (2) (3 (6 1 3)))"},
	})
	binds := with("c* (1 2 3) d** ((4 5) () (6 7)) t*** (((1) (2 3)) () (() (4)))")
	fills(t, one("(((t c d a) ...) ... ...)"), "(((1 1 4 a)) ((2 1 5 a) (3 1 5 a)) () ((4 3 7 a)))", binds...)
	fills(t, one("((t c d) ... ... ...)"), "((1 1 4) (2 1 5) (3 1 5) (4 3 7))", binds...)
	fills(t, one("((c (d t ...) ...) ...)"), "((1 (4 1) (5 2 3)) (2) (3 (6) (7 4)))", binds...)
	fills(t, one("((c (c d (c d t) ...) ...) ...)"), "((1 (1 4 (1 4 1)) (1 5 (1 5 2) (1 5 3))) (2) (3 (3 6) (3 7 (3 7 4))))", binds...)
}

func TestEscapes(t *testing.T) {
	rows(t, [][2]string{
		{"(... ...)", "..."}, {"(... a)", "1"}, {"(... q)", "q"}, {"(... 7)", "7"}, {"(... ())", "()"}, {"(... b)", "(x y)"},
		{"(... (a ...))", "(1 ...)"}, {"(... (... ...))", "(... ...)"}, {"(... (... a))", "(... 1)"}, {"(... (...))", "(...)"}, {"(... (... q r))", "(... q r)"}, {"(... (q ... ... r ...))", "(q ... ... r ...)"}, {"(... (q . ...))", "(q . ...)"}, {"(... (... . a))", "(... . 1)"}, {"(... #(... a))", "#(... 1)"}, {"(... (a . b))", "(1 x y)"}, {"(... ((... (... ...)) a))", "((... (... ...)) 1)"},
		{"(a (... ...))", "(1 ...)"}, {"(q (... ...) r)", "(q ... r)"}, {"#((... ...))", "#(...)"}, {"((... ...) (... ...))", "(... ...)"}, {"((... ...) a)", "(... 1)"}, {"((... ...) . a)", "(... . 1)"}, {"((... a) . b)", "(1 x y)"},
		{"((c (... ...)) ...)", "((1 ...) (2 ...) (3 ...))"}, {"((... (c ...)) ...)", "((1 ...) (2 ...) (3 ...))"}, {"((... c) ...)", "(1 2 3)"}, {"((... d) ... ...)", "(1 2 3)"}, {"(((... (d ...)) ...) ...)", "(((1 ...) (2 ...)) () ((3 ...)))"}, {"((... (c d)) ... ...)", "((1 1) (1 2) (3 3))"},
	})
}

// What stands behind a dot and comes to a List, or Dotted, is joined.
func TestJoined(t *testing.T) {
	rows(t, [][2]string{
		{"(q . b)", "(q x y)"}, {"(q . e)", "(q)"}, {"(q . f)", "(q x . y)"}, {"(q . v)", "(q . #(1))"}, {"(q r a . b)", "(q r 1 x y)"}, {"(c ... . b)", "(1 2 3 x y)"}, {"(c ... q . f)", "(1 2 3 q x . y)"}, {"(c ... . e)", "(1 2 3)"}, {"(c ... . v)", "(1 2 3 . #(1))"},
		{"(b . b)", "((x y) x y)"}, {"((q . b) . f)", "((q x y) x . y)"}, {"#((q . b))", "#((q x y))"}, {"((c . b) ...)", "((1 x y) (2 x y) (3 x y))"}, {"((q . m) ...)", "((q 1 2) (q) (q 3 . 4))"}, {"((d ... . m) ...)", "((1 2 1 2) () (3 3 . 4))"},
		{"(n ... . q)", "q"}, {"(n ... . 7)", "7"}, {"(n ... . b)", "(x y)"}, {"(n ... . e)", "()"}, {"(n ... . f)", "(x . y)"}, {"(n ... . v)", "#(1)"}, {"(n ... n ... . a)", "1"}, {"((n ... . a) q)", "(1 q)"}, {"(n ... . #(a))", "#(1)"}, {"((d ... . c) ...)", "((1 2 . 1) 2 (3 . 3))"}, {"#((o ... . q) ...)", "#(q q q)"},
		{"(o ... ... . f)", "(x . y)"}, {"(n ... . #((n ... . b)))", "#((x y))"},
	})
}

func TestSyntax(t *testing.T) {
	for _, row := range []string{
		// Ellipses that have nothing ahead of them.
		"...", "(...)", "#(...)", "(... a b)", "(... c ...)", "(... ... ...)", "(... ... a)", "#(... a)", "#(... ...)", "(... . a)", "(a . ...)", "(c . ...)", "(c ... . ...)", "(d ... . ...)", "(... . ...)", "(q (...))", "(q (... a b))", "(q #(...))", "(q . #(...))", "((a . ...))", "(c ... (...))", "((... a b) (... ...))",
		// Too few of them.
		"c", "d", "t", "(c)", "(q c)", "#(c)", "(q . c)", "(d ...)", "((d) ...)", "((d ...))", "(t ... ...)", "((t ...) ...)", "(c ... c)", "(c ... (c))", "((c d) ...)", "((d ...) ... d)", "(n)", "((d ... . d) ...)", "(c ... . c)", "(d ... ... . c)",
		"(... c)", "(... (c ...))", "(... (d ... ...))", "((... (d ...)) ...)",
		// Too many of them.
		"(a ...)", "(q ...)", "(7 ...)", "(() ...)", "(b ...)", "((q a) ...)", "#(a ...)", "(a ... . q)", "(c ... ...)", "((c ...) ...)", "((c q ...) ...)", "((c a ...) ...)", "((c k ...) ...)", "(d ... ... ...)", "((d ...) ... ...)", "((d ... ...) ...)", "((c (d ...) ...) ...)", "(c ... q ...)", "((q ...) c ...)", "((... ...) ...)", "((... (q ...)) ...)", "(q (... ...) ...)", "(q ... c ...)",
		// At fault also where it is not gone through.
		"((n (c)) ...)", "((n (d)) ...)", "((n (q ...)) ...)", "((n ...) ...)", "((n (...)) ...)", "((n (... a b)) ...)", "((n . ...) ...)", "((o (q ...)) ... ...)", "((o ... (t)) ...)",
		// Not of one length.
		"((c s) ...)", "((s c) ...)", "((c n) ...)", "((n c) ...)", "((c k s) ...)", "((c (a (s))) ...)", "(((d h) ...) ...)", "((d h) ... ...)", "((d i) ... ...)", "(((d i) ...) ...)", "(((i d) ...) ...)", "((s d) ... ...)", "((d ... s) ...)", "((n d) ... ...)", "((o d) ... ...)", "(((t d) ...) ... ...)", "(c ... (c s) ...)",
	} {
		refused(t, api.ErrSyntax, one(row), usual()...)
	}
	refused(t, api.ErrSyntax, one("..."))
	refused(t, api.ErrSyntax, one("(a ...)"))
	refused(t, api.ErrSyntax, list(slices.Concat([]api.Stx{sym("c")}, slices.Repeat([]api.Stx{sym("...")}, api.MaxNodes-2))...), usual()...)
}

// What is Bound as a bind's Name, by name and marks, is its piece; what is not is none.
func TestNames(t *testing.T) {
	five, six := marked(sym("a"), 5), marked(sym("a"), 6)
	binds := append(with("a 1 c* (2 3)"), named(five, with("a 4")[0]), named(marked(sym("c"), 5), with("a 5")[0]))
	fills(t, list(sym("a"), five, six, marked(sym("a"), 5, 5), marked(sym("a"), -1)), "(1 4 a a a)", binds...)
	fills(t, marked(one("(a c b)"), 5), "(4 5 b)", binds...)
	fills(t, list(sym("a"), marked(list(sym("a"), marked(sym("a"), api.Anti), marked(sym("a"), 7)), 5)), "(1 (4 1 a))", binds...)
	fills(t, list(ribbed(sym("a"), 3), in(of(ints(5), ints(1, 0, 2)), sym("a"))), "(1 4)", binds...) // ribs do not count
	fills(t, list(ribbed(sym("a"), 3)), "(9)", named(ribbed(sym("a"), 4), with("a 9")[0]))
	fills(t, list(sym("a"), marked(sym("a"), api.Anti)), "(a 9)", named(marked(sym("a"), api.Anti), with("a 9")[0]))
	refused(t, api.ErrSyntax, list(marked(sym("c"), 5), sym("...")), binds...)
	refused(t, api.ErrSyntax, list(marked(sym("c"), 6), sym("...")), binds...)
	fills(t, list(list(sym("c"), marked(sym("c"), 5)), sym("...")), "((2 5) (3 5))", binds...)
	// Whatever the names are.
	fills(t, one("(_ else . quote)"), "(1 2 3 4)", with("_ 1 else 2 quote (3 4)")...)
	for _, places := range [][]int{{0, 1, 2, 3}, {3, 2, 1, 0}, {2, 0, 3, 1}} {
		var some []api.Bind
		for _, place := range places {
			some = append(some, with("ab 1 a 2 b 3 abc 4")[place])
		}
		fills(t, one("(a ab abc b ac bb)"), "(2 1 4 3 ac bb)", some...)
	}
}

// Ellipses are so by their name, whatever their marks, but where they are a bind's Name.
func TestEllipsesByName(t *testing.T) {
	dots := sym("...")
	five := marked(dots, 5)
	binds := with("a 1 c* (1 2)")
	fills(t, list(sym("c"), five), "(1 2)", binds...)
	fills(t, list(sym("c"), ribbed(dots, 5)), "(1 2)", binds...)
	fills(t, list(five, list(sym("a"), dots)), "(1 ...)", binds...)
	fills(t, marked(list(sym("b"), dots), 5), "(1 2)", named(marked(sym("b"), 5), with("b* (1 2)")[0]))
	refused(t, api.ErrSyntax, five, binds...)
	nine := append(binds, with("... 9")...)
	fills(t, dots, "9", nine...)
	fills(t, one("(... a)"), "(9 1)", nine...)
	fills(t, one("(... ...)"), "(9 9)", nine...)
	fills(t, one("(a . ...)"), "(1 . 9)", nine...)
	fills(t, one("(... a b)"), "(9 1 b)", nine...)
	refused(t, api.ErrSyntax, one("(c ...)"), nine...)
	fills(t, list(sym("c"), five), "(1 2)", nine...)
	fills(t, list(list(sym("c"), dots), five), "((1 9) (2 9))", nine...)
	fills(t, list(five, list(sym("a"), dots, five)), "(1 9 ...)", nine...)
	refused(t, api.ErrSyntax, list(five, dots, five), nine...)
	fills(t, list(dots, five), "(7 8)", with("...* (7 8)")...)
	refused(t, api.ErrSyntax, dots, with("...* (7 8)")...)
	refused(t, api.ErrSyntax, list(sym("c"), five), with("...* (7 8)")...)
	other := append(binds, named(five, with("... 9")[0]))
	fills(t, list(sym("c"), dots, five), "(1 2 9)", other...)
	fills(t, marked(one("(a ...)"), 5), "(a 9)", other...)
	fills(t, marked(list(sym("..."), marked(sym("..."), api.Anti)), 5), "(3 4)", named(five, with("...* (3 4)")[0]))
}

// What is not a piece of a bind is as it is, Pushed by what stands around it, and stands where it does in the template; a piece of a bind has nothing of that.
func TestPieces(t *testing.T) {
	push := func(w wrap.Wrap, x api.Stx) api.Stx {
		y, e := stx.Push(x, w)
		if e != api.OK {
			t.Fatalf("Push: %d", e)
		}
		return y
	}
	outer, inner, own := of(ints(5), ints(1, 0)), of(ints(6), ints(2, 0, 3)), of(ints(7, 8), ints(0, 4, 0))
	both, e := wrap.Join(outer, inner)
	if e != api.OK {
		t.Fatal(e)
	}
	tail := in(own, dotted(standing(70, in(own, sym("x"))), standing(71, sym("y"))))
	deep := in(own, standing(80, list(in(inner, standing(81, vector(sym("x")))), sym("y"))))
	binds := []api.Bind{
		{Name: marked(sym("a"), 5), Tree: leaf(deep)}, {Name: marked(sym("c"), 5), Depth: 1, Tree: many(leaf(standing(90, sym("x"))), leaf(deep))}, {Name: marked(sym("n"), 5), Depth: 1, Tree: many()},
		{Name: marked(sym("a"), 5, 6), Tree: leaf(standing(91, tail))}, {Name: sym("a"), Tree: leaf(standing(91, tail))},
	}
	q, r := standing(11, in(own, sym("q"))), standing(12, in(inner, list(standing(13, sym("q")), standing(14, one("7")))))
	// A constant is as it is, whole.
	for _, x := range []api.Stx{q, r, in(outer, standing(10, list(q, r, vector(q)))), in(outer, standing(10, dotted(r, q))), in(own, one("7")), in(own, list())} {
		comes(t, x, x, binds...)
		comes(t, x, x)
	}
	// So is one within something else, but Pushed.
	for _, kind := range []int{api.List, api.Vector, api.Dotted} {
		comes(t, in(outer, standing(10, group(kind, standing(20, sym("a")), r, q))), standing(10, group(kind, deep, push(outer, r), push(outer, q))), binds...)
		comes(t, in(outer, standing(10, group(kind, r, standing(20, sym("c")), standing(21, sym("...")), q))), standing(10, group(kind, push(outer, r), standing(90, sym("x")), deep, push(outer, q))), binds...)
		comes(t, in(outer, standing(10, group(kind, in(inner, standing(20, vector(r, standing(30, sym("a"))))), q))), standing(10, group(kind, standing(20, vector(push(both, r), standing(91, tail))), push(outer, q))), binds...)
	}
	// Each time one is gone through.
	each := in(outer, standing(10, list(in(of(nil, ints(2)), standing(20, vector(q, in(own, standing(21, one("7"))), standing(22, list(sym("c")))))), sym("..."))))
	seven := in(own, standing(21, one("7")))
	around, _ := wrap.Join(outer, of(nil, ints(2)))
	row := func(piece api.Stx) api.Stx {
		return standing(20, vector(push(around, q), push(around, seven), standing(22, list(piece))))
	}
	comes(t, each, standing(10, list(row(standing(90, sym("x"))), row(deep))), binds...)
	// The thing behind an ellipsis, alone.
	comes(t, in(outer, standing(10, list(sym("..."), r))), push(outer, r), binds...)
	comes(t, in(outer, standing(10, list(sym("..."), standing(20, sym("a"))))), deep, binds...)
	comes(t, in(outer, standing(10, list(q, standing(20, list(sym("..."), standing(21, sym("..."))))))), standing(10, list(push(outer, q), standing(21, in(outer, sym("..."))))))
	comes(t, list(q, standing(20, list(sym("..."), standing(21, sym("..."))))), list(q, standing(21, sym("..."))), binds...)
	// What is joined stands where the template has its dot's whole; what stands alone, where it did.
	comes(t, standing(10, dotted(q, sym("a"))), standing(10, dotted(q, push(own, tail.List[0]), push(own, tail.List[1]))), binds...)
	comes(t, in(outer, standing(10, dotted(q, sym("a")))), standing(10, list(push(outer, q), push(own, deep.List[0]), push(own, deep.List[1]))), binds...)
	comes(t, in(outer, standing(10, dotted(sym("n"), sym("..."), sym("a")))), deep, binds...)
	comes(t, in(outer, standing(10, dotted(sym("n"), sym("..."), q))), push(outer, q), binds...)
	comes(t, in(outer, standing(10, dotted(sym("n"), sym("..."), in(own, standing(20, vector(q)))))), push(outer, in(own, standing(20, vector(q)))), binds...)
}

// A piece may be sound for what stands around it alone; the Join from the outermost wrap on counts.
func TestPiecesOfAntis(t *testing.T) {
	anti := func(x api.Stx) api.Stx { return marked(x, api.Anti) }
	x := marked(list(anti(list(anti(list(sym("x"), anti(sym("y")))))), sym("z")), 4, 5, 6)
	if !stx.Sound(x) || stx.Sound(x.List[0]) {
		t.Fatal("not what it should be")
	}
	comes(t, x, x)
	uses(t, x, ints(0, 2), named(marked(sym("x"), 4), with("x 1")[0]), with("x 1")[0], with("y 2")[0], with("z 3")[0])
	comes(t, x, list(list(list(standing(2, one("1")), sym("y"))), marked(sym("z"), 4, 5, 6)), named(marked(sym("x"), 4), with("x 1")[0]))
	comes(t, x, list(list(list(marked(sym("x"), 4), standing(2, one("2")))), marked(sym("z"), 4, 5, 6)), with("y 2")...)
	comes(t, x, list(marked(list(anti(list(sym("x"), anti(sym("y"))))), 4, 5), standing(2, one("3"))), named(marked(sym("z"), 4, 5, 6), with("z 3")[0]))
}

func TestUnsound(t *testing.T) {
	good := []string{"...", "(a ...)", "a", "q"} // some of them are at fault otherwise
	for _, bad := range strangers() {
		unsound(t, bad)
		unsound(t, bad, usual()...)
		for _, template := range good {
			x := one(template)
			unsound(t, x, api.Bind{Name: bad, Tree: leaf(sym("x"))})
			unsound(t, x, append(with("a 1"), api.Bind{Name: bad, Depth: 1, Tree: many()})...)
			unsound(t, x, api.Bind{Name: sym("a"), Tree: leaf(bad)})
			unsound(t, x, append(with("q 1"), api.Bind{Name: sym("b"), Tree: leaf(bad)})...)
			unsound(t, x, api.Bind{Name: sym("a"), Depth: 1, Tree: many(leaf(sym("x")), leaf(bad))})
			unsound(t, x, append([]api.Bind{{Name: sym("a"), Depth: 2, Tree: many(many(), many(leaf(sym("x"))), many(leaf(sym("x")), leaf(bad), leaf(sym("y"))))}}, with("b 1")...)...)
		}
	}
	for _, x := range all(`1 "a" #\a #t () (x) #(x) (x . y)`) { // sound, but no identifiers
		unsound(t, sym("a"), api.Bind{Name: x, Tree: leaf(sym("x"))})
	}
	unsound(t, sym("a"), api.Bind{})
	unsound(t, sym("a"), api.Bind{Name: sym("a")})
	unsound(t, sym("a"), api.Bind{Tree: leaf(sym("x"))})
}

// The tree of a bind is Many down to its Depth, and One there.
func TestUnsoundTrees(t *testing.T) {
	x := leaf(sym("x"))
	round := make([]api.Tree, 3)
	round[0], round[1], round[2] = many(), many(round...), many(round...)
	for _, b := range []api.Bind{
		{Depth: -1, Tree: x}, {Depth: math.MinInt, Tree: x}, {Depth: -1, Tree: many()}, {Depth: api.MaxDepth + 1, Tree: many()}, {Depth: math.MaxInt, Tree: many()}, {Depth: api.MaxDepth + 1, Tree: many(many())},
		{Tree: many()}, {Tree: many(x)}, {Tree: api.Tree{Many: true, One: sym("x")}}, {Depth: 1, Tree: x}, {Depth: 1, Tree: api.Tree{One: sym("x"), All: []api.Tree{x}}}, {Depth: 1}, {Depth: 1, Tree: many(many())}, {Depth: 1, Tree: many(x, many(x))}, {Depth: 1, Tree: many(many(), x)},
		{Depth: 2, Tree: many(x)}, {Depth: 2, Tree: many(many(x), x)}, {Depth: 2, Tree: many(many(many()))}, {Depth: 2, Tree: x}, {Depth: 2, Tree: many(many(x), many(x, api.Tree{}))}, {Depth: 3, Tree: many(many(many(x, many())))}, {Depth: 3, Tree: many(many(x))},
		{Depth: api.MaxDepth, Tree: many(round...)},
	} {
		for _, template := range []string{"a", "b", "(a ...)", "...", "(a ... ...)", "()"} {
			b.Name = sym("a")
			unsound(t, one(template), b)
			unsound(t, one(template), append(with("b 1"), b)...)
			unsound(t, one(template), append([]api.Bind{b}, with("b 1")...)...)
		}
	}
	// What else stands in a tree is not asked.
	fills(t, sym("a"), "x", api.Bind{Name: sym("a"), Tree: api.Tree{One: sym("x"), All: []api.Tree{{}}}})
	fills(t, one("(a ...)"), "(x)", api.Bind{Name: sym("a"), Depth: 1, Tree: api.Tree{Many: true, One: sym(""), All: []api.Tree{x}}})
}

// No two Names are Bound as one another.
func TestUnsoundNames(t *testing.T) {
	for _, text := range []string{"a 1 a 1", "a 1 a 2", "a 1 a* (1)", "a 1 b 2 a 3", "b 1 a 2 c 3 d 4 a 5", "a 1 ab 2 abc 3 ab 4", "... 1 ... 2"} {
		for _, template := range []string{"a", "q", "...", "(a ...)"} {
			unsound(t, one(template), with(text)...)
		}
	}
	of := func(names ...api.Stx) []api.Bind {
		var binds []api.Bind
		for _, name := range names {
			binds = append(binds, api.Bind{Name: name, Tree: leaf(sym("x"))})
		}
		return binds
	}
	a, five, ribs := sym("a"), marked(sym("a"), 5), ribbed(sym("a"), 5)
	for _, names := range [][]api.Stx{{a, ribs}, {five, a, five}, {five, in(wrap.Wrap{Marks: ints(5), Subs: ints(3, 0, 4)}, sym("a"))}, {standing(1, a), standing(2, a)}, {five, marked(a, 6), marked(a, 5, 6), marked(a, 6, 5), marked(a, 5, 6)}} {
		unsound(t, a, of(names...)...)
	}
	for _, names := range [][]api.Stx{{a, five}, {ribs, five}, {five, marked(a, 6), marked(a, 5, 6), marked(a, 6, 5), marked(a, 5, 5), marked(a, -1), marked(a, -1, 5), a}} {
		binds := of(names...)
		fills(t, list(names...), "("+strings.TrimSuffix(strings.Repeat("x ", len(names)), " ")+")", binds...)
		var places []int
		for place := range names {
			places = append(places, place)
		}
		uses(t, list(names...), places, binds...)
	}
}

// Limits

// row is n of those pieces.
func row(n int, x api.Stx) []api.Stx { return slices.Repeat([]api.Stx{x}, n) }

func TestLargeNumber(t *testing.T) {
	const most = api.MaxNodes
	x := sym("x")
	wide := func(n int) api.Bind { return bind("c*", list(row(n, x)...)) }
	long := func(kind, n int) api.Bind { return api.Bind{Name: sym("b"), Tree: leaf(group(kind, row(n-1, x)...))} } // of n pieces, itself among them
	some := with("n* () a 1 s* (1 2)")
	for _, row := range []struct {
		template string
		b        api.Bind // with which MaxNodes pieces come
		more     api.Bind // with which one more does
	}{
		{"(c ...)", wide(most - 1), wide(most)}, {"#(c ...)", wide(most - 1), wide(most)}, {"(a c ... a)", wide(most - 3), wide(most - 2)}, {"(c ... . a)", wide(most - 2), wide(most - 1)}, {"(c ... . q)", wide(most - 2), wide(most - 1)}, {"(c ... s ...)", wide(most - 3), wide(most - 2)},
		{"((a c ...))", wide(most - 3), wide(most - 2)}, {"((c ...) (q a))", wide(most - 5), wide(most - 4)}, {"(q (... (q ...)) c ...)", wide(most - 5), wide(most - 4)}, {"(q #(n ...) () c ...)", wide(most - 4), wide(most - 3)}, {"((c ...) . q)", wide(most - 3), wide(most - 2)},
		{"(b)", long(api.List, most-1), long(api.List, most)}, {"(a b)", long(api.Dotted, most-2), long(api.Dotted, most-1)}, {"#(b)", long(api.Vector, most-1), long(api.Vector, most)}, {"(n ... b)", long(api.List, most-1), long(api.List, most)},
		{"(q . b)", long(api.List, most-1), long(api.List, most)}, {"(q . b)", long(api.Dotted, most-1), long(api.Dotted, most)}, {"(q . b)", long(api.Vector, most-2), long(api.Vector, most-1)}, {"(s ... . b)", long(api.List, most-2), long(api.List, most-1)}, {"(s ... . b)", long(api.Vector, most-3), long(api.Vector, most-2)},
		{"((n ... . b))", long(api.List, most-1), long(api.List, most)}, {"((n ... . b) q)", long(api.Vector, most-2), long(api.Vector, most-1)}, {"((q . b) q)", long(api.List, most-3), long(api.List, most-2)}, {"(b b)", long(api.List, (most-1)/2), long(api.List, (most-1)/2+1)}, {"((s b) ...)", long(api.List, (most-5)/2), long(api.List, (most-5)/2+1)}, {"((s . b) ...)", long(api.List, (most-3)/2), long(api.List, (most-3)/2+1)}, {"((s . b) ... q)", long(api.List, (most-4)/2), long(api.List, (most-4)/2+1)},
	} {
		filled(t, one(row.template), append(some, row.b)...)
		refused(t, api.ErrLarge, one(row.template), append(some, row.more)...)
	}
	for _, kind := range []int{api.List, api.Dotted, api.Vector} { // alone it is no larger than it was
		b := long(kind, most)
		comes(t, sym("b"), b.Tree.One, b)
		comes(t, one("(... b)"), b.Tree.One, b)
		comes(t, one("(n ... . b)"), b.Tree.One, append(some, b)...)
	}
	whole := list(row(most-1, x)...)
	comes(t, whole, whole)
	whole.List[0] = sym("b")
	filled(t, whole, long(api.List, 1))
	refused(t, api.ErrLarge, whole, long(api.List, 2))
	filled(t, whole, with("q 1")...)
	fives := marked(one("(c ... (c ...))"), 5)
	refused(t, api.ErrLarge, fives, named(marked(sym("c"), 5), wide(most/2)))
	filled(t, fives, named(marked(sym("c"), 5), wide(most/2-1)))
}

func TestLargeDepth(t *testing.T) {
	const most = api.MaxDepth
	deep := func(n int) api.Bind { return api.Bind{Name: sym("b"), Tree: leaf(nested(n-1, sym("x")))} } // n deep
	some := with("n* () a 1 s* (1 2)")
	for _, row := range []struct {
		template string
		around   int // how many lists come around what is in b
	}{{"b", 0}, {"(b)", 1}, {"#(q b)", 1}, {"(b . q)", 1}, {"((b))", 2}, {"(... b)", 0}, {"((... b))", 1}, {"(q . b)", 0}, {"(n ... . b)", 0}, {"((n ... . b))", 1}, {"((q . b))", 1}, {"((s b) ...)", 2}, {"((s . b) ...)", 1}, {"(q . #(b))", 2}, {"(n ... . #(b))", 1}} {
		filled(t, one(row.template), append(some, deep(most-row.around))...)
		if row.around > 0 {
			refused(t, api.ErrLarge, one(row.template), append(some, deep(most-row.around+1))...)
		}
	}
	for n := range most {
		filled(t, nested(n, sym("b")), deep(most-n))
		if n > 0 {
			refused(t, api.ErrLarge, nested(n, sym("b")), deep(most-n+1))
			refused(t, api.ErrLarge, nested(n, sym("b")), deep(most))
		}
	}
}

// Where a fault and ErrLarge both apply, either is right; but ErrForm is ahead of both.
func TestWhichError(t *testing.T) {
	wide := bind("c*", list(row(api.MaxNodes, sym("x"))...))
	unsound(t, one("(c ... ...)"), append(with("a 1 a 2"), wide)...)
	unsound(t, one("(c ...)"), append(with("a 1 a 2"), wide)...)
	unsound(t, api.Stx{}, append(with("a 1 a 2"), wide)...)
	for _, template := range []string{"(c ... c)", "(c ... (c s) ...)", "((c s) ... c ...)", "(c ... . ...)"} {
		if x, e := tmpl.Fill(one(template), append(with("s* (1 2)"), wide)...); e != api.ErrSyntax && e != api.ErrLarge || exact(x) != exact(api.Stx{}) {
			t.Errorf("%s: %d", template, e)
		}
	}
}

// names answers n names.
func names(n int) []api.Stx {
	var list []api.Stx
	for i := range n {
		list = append(list, sym(fmt.Sprintf("v%d", i)))
	}
	return list
}

func TestManyVariables(t *testing.T) {
	const most = api.MaxNodes - 1
	sevens := "(" + strings.Repeat("7 ", most-1) + "7)"
	many := func(names []api.Stx) {
		t.Helper()
		var binds []api.Bind
		var places []int
		for i, name := range names {
			binds = append(binds, api.Bind{Name: name, Tree: leaf(one("7"))})
			places = append(places, i)
		}
		x := filled(t, list(names...), binds...)
		if d, _ := stx.Strip(x); len(d.List) != most || text(x) != sevens[:1000] {
			t.Errorf("%d: %s", len(d.List), text(x))
		}
		uses(t, list(names...), places, binds...)
		slices.Reverse(binds)
		uses(t, list(names...), places, binds...)
		uses(t, list(names[0], names[most-1], names[1], names[most-1]), ints(0, most-2, most-1), binds...)
		binds[17].Name = binds[most-5].Name
		unsound(t, list(names...), binds...)
	}
	many(names(most))
	var marks []api.Stx
	for i := range most { // one name
		marks = append(marks, marked(sym("w"), 1+i/100, 1+i%100))
	}
	many(marks)
	// More than there can be identifiers in a template.
	var binds []api.Bind
	for _, name := range names(50000) {
		binds = append(binds, api.Bind{Name: name, Tree: leaf(name)})
	}
	fills(t, one("(v49999 v0 v50000 v00)"), "(v49999 v0 v50000 v00)", binds...)
	uses(t, one("(v49999 v0 v50000 v00 v7)"), ints(0, 7, 49999), binds...)
	// All of them gone through together.
	binds = nil
	for _, name := range names(2000) {
		binds = append(binds, api.Bind{Name: name, Depth: 1, Tree: grown(1, one("(1 2 3)"))})
	}
	template := list(list(names(2000)...), sym("..."))
	if x := filled(t, template, binds...); len(x.List) != 3 || len(x.List[2].List) != 2000 || text(x.List[2].List[1999]) != "3" {
		t.Errorf("%s", text(x))
	}
	binds[1234].Tree.All = binds[1234].Tree.All[:2]
	refused(t, api.ErrSyntax, template, binds...)
}

func TestManyEllipses(t *testing.T) {
	const most = api.MaxDepth
	dots := func(n int) []api.Stx { return row(n, sym("...")) }
	tree, none := many(leaf(sym("x"))), many()
	for range most - 2 {
		tree, none = many(tree), many(none)
	}
	b, n := api.Bind{Name: sym("b"), Depth: most, Tree: many(tree, none)}, api.Bind{Name: sym("n"), Depth: most, Tree: many(none, none)}
	fills(t, list(slices.Concat([]api.Stx{sym("b")}, dots(most))...), "(x)", b, n)
	fills(t, vector(slices.Concat([]api.Stx{list(sym("b"), sym("q"))}, dots(most), []api.Stx{sym("n")}, dots(most), []api.Stx{sym("r")})...), "#((x q) r)", b, n)
	for _, wrong := range []int{0, 1, most - 1, most + 1} {
		refused(t, api.ErrSyntax, list(slices.Concat([]api.Stx{sym("b")}, dots(wrong))...), b, n)
	}
	b.Depth, b.Tree = most-1, tree
	template := sym("b")
	for range most - 1 {
		template = list(template, sym("..."))
	}
	comes(t, template, nested(most-1, sym("x")), b)
	fills(t, list(list(list(sym("b"), sym("...")), sym("..."), sym("c"), sym("...")), sym("...")), "()", named(sym("c"), api.Bind{Depth: 2, Tree: many()}), named(sym("b"), api.Bind{Depth: 3, Tree: many()}))
}

// Very much to go through, of which little or nothing comes, and very much that would come.
func TestMuchToGoThrough(t *testing.T) {
	empties := many(slices.Repeat([]api.Tree{many()}, 300000)...)
	o, p := api.Bind{Name: sym("o"), Depth: 2, Tree: empties}, api.Bind{Name: sym("p"), Depth: 2, Tree: empties}
	fills(t, one("((o p) ... ... . q)"), "q", o, p)
	fills(t, one("(o ... ... p ... ... (o ... ...))"), "(())", o, p)
	refused(t, api.ErrLarge, one("((o ...) ...)"), o, p)

	wide := api.Bind{Name: sym("b"), Tree: leaf(list(row(api.MaxNodes-2, sym("x"))...))}
	trees := many(slices.Repeat([]api.Tree{leaf(sym("x"))}, 300)...)
	for range 2 {
		trees = many(slices.Repeat([]api.Tree{trees}, 30)...)
	}
	c := api.Bind{Name: sym("c"), Depth: 3, Tree: trees}
	var ahead, behind runtime.MemStats
	runtime.ReadMemStats(&ahead)
	for _, template := range []string{"((c b) ... ... ...)", "(((c b ) ... ...) ...)", "((c . b) ... ... ...)", "(((c ... . b) ...) ...)", "(b b . b)", "(c ... ... ...)"} {
		refused(t, api.ErrLarge, one(template), wide, c)
	}
	runtime.ReadMemStats(&behind)
	if used := behind.TotalAlloc - ahead.TotalAlloc; used > 1<<30 {
		t.Errorf("%d bytes", used)
	}
}

// P13.2

func TestUses(t *testing.T) {
	binds := with("a 1 b* (1) ... 2 c** () d 3")
	for _, row := range []struct {
		template string
		places   []int
	}{
		{"a", ints(0)}, {"d", ints(4)}, {"q", nil}, {"7", nil}, {`"a"`, nil}, {`#\a`, nil}, {"()", nil}, {"(d a)", ints(0, 4)}, {"(a d a)", ints(0, 4)}, {"#(d (b q . a))", ints(0, 1, 4)}, {"(q . d)", ints(4)}, {"(a b ... c d)", ints(0, 1, 2, 3, 4)}, {"...", ints(2)}, {"(d c b)", ints(1, 3, 4)}, {"((((c))))", ints(3)}, {"(q #(q (q . c)) q)", ints(3)},
	} {
		uses(t, one(row.template), row.places, binds...)
	}
	for _, row := range []struct {
		template string
		places   []int
	}{ // Whatever stands at fault, and also where ellipses are Symbols like others.
		{"...", nil}, {"(...)", nil}, {"(... a)", ints(0)}, {"(... (c ... b))", ints(1, 2)}, {"(a ...)", ints(0)}, {"(a . ...)", ints(0)}, {"b", ints(1)}, {"c", ints(2)}, {"(... d c ... ...)", ints(2, 3)}, {"((b c) ...)", ints(1, 2)}, {"#(... ... (... ... . d))", ints(3)},
	} {
		uses(t, one(row.template), row.places, with("a 1 b* (1) c** () d 3")...)
	}
	uses(t, one("(a b)"), nil)
	uses(t, list(row(api.MaxNodes-1, sym("d"))...), ints(4), binds...)
	five := append(binds, named(marked(sym("a"), 5), with("a 1")[0]), named(ribbed(sym("q"), 5), with("a 1")[0]))
	uses(t, marked(one("(a d)"), 5), ints(5), five...)
	uses(t, marked(list(sym("a"), marked(sym("a"), api.Anti)), 5), ints(0, 5), five...)
	uses(t, list(sym("q"), marked(sym("q"), 5), ribbed(sym("d"), 8)), ints(4, 6), five...)
	uses(t, nested(api.MaxDepth-1, sym("d")), ints(4), binds...)
}

// Memory

// spoilt is what stands nowhere else.
const spoilt = 987654321

// spoil writes over all lists of x, spare room among it, and tells if one of them had been written over.
func spoil(x api.Stx) bool {
	shared := false
	for _, in := range x.List {
		shared = spoil(in) || shared
	}
	for _, list := range [][]int{x.Marks[:cap(x.Marks)], x.Subs[:cap(x.Subs)]} {
		for i := range list {
			shared = shared || list[i] == spoilt
			list[i] = spoilt
		}
	}
	limbs, pieces := x.Num.Limbs[:cap(x.Num.Limbs)], x.List[:cap(x.List)]
	for i := range limbs {
		shared = shared || limbs[i] == spoilt
		limbs[i] = spoilt
	}
	for i := range pieces {
		shared = shared || pieces[i].At == spoilt
		pieces[i] = api.Stx{At: spoilt}
	}
	return shared
}

// roomy is x with memory of its own, each list of it with room to spare, in which stand things of their own.
func roomy(x api.Stx) api.Stx {
	x.Num.Limbs = append(slices.Clone(x.Num.Limbs), 91, 92)[:len(x.Num.Limbs)]
	x.Marks = append(slices.Clone(x.Marks), 93, 94)[:len(x.Marks)]
	x.Subs = append(slices.Clone(x.Subs), 95, 96)[:len(x.Subs)]
	n := len(x.List)
	x.List = append(slices.Clone(x.List), sym("spare"), sym("room"))[:n]
	for i, in := range x.List {
		x.List[i] = roomy(in)
	}
	return x
}

// roomyTree does so with a tree.
func roomyTree(tree api.Tree) api.Tree {
	tree.One = roomy(tree.One)
	n := len(tree.All)
	tree.All = append(slices.Clone(tree.All), leaf(sym("spare")), many())[:n]
	for i, in := range tree.All {
		tree.All[i] = roomyTree(in)
	}
	return tree
}

// room is what all lists of x have in all of their room, as a text.
func room(x api.Stx) string {
	s := fmt.Sprint(x.Kind, x.Text, x.At, x.Num.Limbs[:cap(x.Num.Limbs)], x.Marks[:cap(x.Marks)], x.Subs[:cap(x.Subs)])
	for _, in := range x.List[:cap(x.List)] {
		s += "(" + room(in) + ")"
	}
	return s
}

// roomOf is that of a tree.
func roomOf(tree api.Tree) string {
	s := fmt.Sprint(tree.Many, room(tree.One))
	for _, in := range tree.All[:cap(tree.All)] {
		s += "<" + roomOf(in) + ">"
	}
	return s
}

// What is handed in is neither changed nor kept, and what is answered shares nothing, also among itself.
func TestMemory(t *testing.T) {
	big := one("100000000000000000000")
	for _, template := range []api.Stx{
		sym("a"), big, marked(sym("q"), 5), list(sym("a"), big, sym("a")), marked(one("(q (r 10000000000) #(s))"), 5, 6), vector(sym("c"), sym("..."), sym("c"), sym("...")), list(list(sym("c"), marked(sym("q"), 5), big), sym("...")),
		dotted(sym("q"), sym("f")), dotted(sym("n"), sym("..."), sym("f")), dotted(sym("n"), sym("..."), big), list(dotted(sym("c"), sym("f")), sym("...")), list(list(marked(list(sym("q"), big), 7), sym("d"), sym("...")), sym("...")), list(sym("..."), list(sym("a"), sym("..."), big)), list(list(marked(sym("..."), 5), list(sym("..."), marked(sym("q"), 8))), sym("f")),
	} {
		template = roomy(placed(template))
		binds := append(make([]api.Bind, 0, 9), with("a (100000000000 x) c* ((x) 10000000000 y) d** ((1 2) () (10000000000)) f (x 10000000000 . y) n* ()")...)
		for i := range binds {
			binds[i].Name, binds[i].Tree = roomy(ribbed(binds[i].Name, 5)), roomyTree(binds[i].Tree)
		}
		binds[0].Tree.One = roomy(in(of(ints(5), ints(4, 0)), binds[0].Tree.One))
		binds[3].Tree.One = roomy(in(of(ints(6), ints(4, 0)), binds[3].Tree.One))
		everything := func() string {
			s := room(template)
			for _, b := range binds[:cap(binds)] {
				s += fmt.Sprint(room(b.Name), b.Depth, roomOf(b.Tree))
			}
			return s
		}
		before := everything()
		x, e := tmpl.Fill(template, binds...)
		other, _ := tmpl.Fill(template, binds...)
		places, f := tmpl.Uses(template, binds...)
		again, _ := tmpl.Uses(template, binds...)
		if e != api.OK || f != api.OK {
			t.Fatalf("%s: %d, %d", text(template), e, f)
		}
		want, wants := exact(other), fmt.Sprint(again)
		if exact(x) != want || fmt.Sprint(places) != wants {
			t.Errorf("%s: not twice the same", text(template))
		}
		if everything() != before {
			t.Fatalf("%s: what was handed in was changed", text(template))
		}
		if spoil(x) {
			t.Errorf("%s: the answer shares memory with itself", want)
		}
		for i := range places {
			places[i] = spoilt
		}
		if everything() != before || exact(other) != want || fmt.Sprint(again) != wants {
			t.Errorf("%s: the answer shares memory", want)
		}
		spoil(template)
		for _, b := range binds {
			spoil(b.Name)
			spoil(b.Tree.One)
			for _, in := range b.Tree.All {
				spoil(in.One)
			}
		}
		if exact(other) != want || fmt.Sprint(again) != wants {
			t.Errorf("%s: the answer hangs on what was handed in", want)
		}
	}
}
