package pat_test

import (
	"fmt"
	"math"
	"runtime"
	"slices"
	"strings"
	"testing"

	"marginalia/api"
	"marginalia/num"
	"marginalia/pat"
	"marginalia/print"
	"marginalia/read"
	"marginalia/rib"
	"marginalia/stx"
	"marginalia/wrap"
)

// The pieces that tests hand in.

// all answers the pieces of a text, without wraps.
func all(text string) []api.Stx {
	datums, at, e := read.Read([]byte(text), api.MaxDepth)
	if e != api.OK {
		panic(fmt.Sprintf("%.200q: error %d at %d", text, e, at))
	}
	var list []api.Stx
	for _, d := range datums {
		x, _ := stx.Of(d, wrap.Wrap{})
		list = append(list, x)
	}
	return list
}

// one answers the one piece of a text.
func one(text string) api.Stx { return all(text)[0] }

func sym(name string) api.Stx { return api.Stx{Kind: api.Symbol, Text: name} }
func group(kind int, in ...api.Stx) api.Stx {
	return api.Stx{Kind: kind, List: in}
}
func list(in ...api.Stx) api.Stx   { return group(api.List, in...) }
func dotted(in ...api.Stx) api.Stx { return group(api.Dotted, in...) }
func vector(in ...api.Stx) api.Stx { return group(api.Vector, in...) }
func void() api.Stx                { return api.Stx{Kind: api.Void} }

func ints(n ...int) []int            { return n }
func of(marks, subs []int) wrap.Wrap { return wrap.Wrap{Marks: marks, Subs: subs} }

// in is x with w in the place of its wrap.
func in(w wrap.Wrap, x api.Stx) api.Stx {
	x.Marks, x.Subs = w.Marks, w.Subs
	return x
}

// marked is x with these marks.
func marked(x api.Stx, marks ...int) api.Stx {
	return in(of(marks, slices.Repeat(ints(api.Shift), len(marks))), x)
}

// ribbed is x with these ribs.
func ribbed(x api.Stx, ribs ...int) api.Stx { return in(of(nil, ribs), x) }

// placed is x with memory of its own, each piece in it standing somewhere else.
func placed(x api.Stx) api.Stx {
	at := 0
	return stood(x, &at)
}

func stood(x api.Stx, at *int) api.Stx {
	*at += 3
	x.At = *at
	x.Num.Limbs, x.Marks, x.Subs = slices.Clone(x.Num.Limbs), slices.Clone(x.Marks), slices.Clone(x.Subs)
	x.List = slices.Clone(x.List)
	for i := range x.List {
		x.List[i] = stood(x.List[i], at)
	}
	return x
}

// strangers are pieces that are not sound.
func strangers() []api.Stx {
	bads := []api.Stx{
		{}, {Kind: api.Other, Text: "x"}, {Kind: math.MaxInt}, {Kind: math.MinInt}, sym(""), sym("1"), sym("x y"), sym("\xFF"), sym(strings.Repeat("x", api.MaxName+1)),
		{Kind: api.Char}, {Kind: api.Char, Text: "xy"}, {Kind: api.String, Text: "\xFF"}, {Kind: api.True, Text: "x"}, {Kind: api.Integer, Num: api.Int{Neg: true}},
		dotted(sym("x")), dotted(), dotted(sym("x"), list()), {Kind: api.List, Text: "x"}, {Kind: api.Symbol, Text: "x", List: []api.Stx{sym("x")}},
		marked(sym("x"), 0), marked(sym("x"), 5, -1), marked(sym("x"), -2), in(of(ints(5), nil), sym("x")), in(of(nil, ints(0)), sym("x")), ribbed(sym("x"), -1),
		marked(sym("x"), slices.Repeat(ints(1), api.MaxWrap+1)...), in(of(ints(5), nil), list()), in(of(nil, ints(-1)), api.Stx{Kind: api.True}),
		marked(list(marked(sym("x"), -1, 5)), -1), marked(list(marked(sym("x"), slices.Repeat(ints(1), api.MaxWrap)...)), 1), ribbed(list(ribbed(sym("x"), slices.Repeat(ints(1), api.MaxWrap)...)), 1),
		list(slices.Repeat([]api.Stx{sym("x")}, api.MaxNodes)...), nested(api.MaxDepth, sym("x")),
	}
	for _, kind := range []int{api.List, api.Dotted, api.Vector} {
		for _, bad := range bads[:len(bads):len(bads)] {
			bads = append(bads, group(kind, sym("x"), bad, sym("y")))
		}
		round := group(kind, make([]api.Stx, 2)...)
		round.List[0], round.List[1] = round, round
		bads = append(bads, round)
	}
	return bads
}

// nested is x within n lists.
func nested(n int, x api.Stx) api.Stx {
	for range n {
		x = list(x)
	}
	return x
}

// What tests tell of pieces and trees.

// text is the datum of x as a text.
func text(x api.Stx) string {
	d, e := stx.Strip(x)
	s, f := print.Print(d)
	if e != api.OK || f != api.OK {
		return fmt.Sprintf("<error %d, %d: kind %d, %.40q, %d in it>", e, f, x.Kind, x.Text, len(x.List))
	}
	return s[:min(len(s), 1000)]
}

// grown is a tree as a text.
func grown(t api.Tree) string {
	if !t.Many {
		return text(t.One)
	}
	var texts []string
	for _, in := range t.All {
		texts = append(texts, grown(in))
	}
	return "[" + strings.Join(texts, " ") + "]"
}

// told are binds as a text: each name with a star for each ellipsis.
func told(binds []api.Bind) string {
	var texts []string
	for _, b := range binds {
		texts = append(texts, b.Name.Text+strings.Repeat("*", b.Depth)+"="+grown(b.Tree))
	}
	return strings.Join(texts, " ")
}

// exact is all that stands in x, wraps and places too, as a text.
func exact(x api.Stx) string {
	s := fmt.Sprint("{", x.Kind, x.Text, " ", x.Num.Neg, " ", append([]uint32{}, x.Num.Limbs...), x.At, append([]int{}, x.Marks...), append([]int{}, x.Subs...))
	for _, in := range x.List {
		s += exact(in)
	}
	return s + "}"
}

// exactTree is all that stands in a tree, fields that should be empty too, as a text.
func exactTree(t api.Tree) string {
	s := fmt.Sprint("<", t.Many, exact(t.One))
	for _, in := range t.All {
		s += exactTree(in)
	}
	return s + ">"
}

// exactBinds is all that stands in binds, as a text.
func exactBinds(binds []api.Bind) string {
	s := ""
	for _, b := range binds {
		s += fmt.Sprint(exact(b.Name), b.Depth, exactTree(b.Tree), "\n")
	}
	return s
}

// leaf and many are trees.
func leaf(x api.Stx) api.Tree         { return api.Tree{One: x} }
func many(trees ...api.Tree) api.Tree { return api.Tree{Many: true, All: trees} }

// The calls, each with its answer held against what it should be.

// refused tells of it if Check and Match do not both answer that error, and nothing beside.
func refused(t *testing.T, want api.Errno, pattern api.Stx, literals ...api.Stx) {
	t.Helper()
	if vars, e := pat.Check(pattern, literals...); e != want || len(vars) != 0 {
		t.Errorf("Check of %.200s: %d vars, %d, not %d", text(pattern), len(vars), e, want)
	}
	for _, r := range []*rib.Ribs{rib.New(), nil} {
		for _, x := range []api.Stx{pattern, one("(1 2)"), {}} {
			unmatched(t, want, r, pattern, x, literals...)
		}
	}
}

// unmatched tells of it if Match does not answer that error (OK: that it does not match), and nothing beside.
func unmatched(t *testing.T, want api.Errno, r *rib.Ribs, pattern, x api.Stx, literals ...api.Stx) {
	t.Helper()
	if binds, ok, e := pat.Match(r, pattern, x, literals...); e != want || ok || len(binds) != 0 {
		t.Errorf("Match of %.200s and %.200s: %.200s, %v, %d, not %d", text(pattern), text(x), told(binds), ok, e, want)
	}
}

// matched answers the binds of a pattern that matches x; Check has to answer the same without Trees.
func matched(t *testing.T, r *rib.Ribs, pattern, x api.Stx, literals ...api.Stx) []api.Bind {
	t.Helper()
	binds, ok, e := pat.Match(r, pattern, x, literals...)
	if !ok || e != api.OK {
		t.Fatalf("Match of %.200s and %.200s: %v, %d", text(pattern), text(x), ok, e)
	}
	vars, e := pat.Check(pattern, literals...)
	if e != api.OK || len(vars) != len(binds) {
		t.Fatalf("Check of %.200s: %d vars, %d, not %d", text(pattern), len(vars), e, len(binds))
	}
	for i, b := range binds {
		if exact(b.Name) != exact(vars[i].Name) || b.Depth != vars[i].Depth || exactTree(vars[i].Tree) != exactTree(api.Tree{}) {
			t.Errorf("variable %d of %.200s: %.200s, and %.200s", i, text(pattern), exactBinds(vars[i:i+1]), exactBinds(binds[i:i+1]))
		}
	}
	return binds
}

// matches holds what Match answers, in short, against want.
func matches(t *testing.T, r *rib.Ribs, pattern, x api.Stx, want string, literals ...api.Stx) {
	t.Helper()
	if got := told(matched(t, r, pattern, x, literals...)); got != want {
		t.Errorf("Match of %.200s and %.200s: %.500s, not %.500s", text(pattern), text(x), got, want)
	}
}

// checks holds what Check answers against want: names, each with a star for each ellipsis.
func checks(t *testing.T, pattern api.Stx, want string, literals ...api.Stx) {
	t.Helper()
	vars, e := pat.Check(pattern, literals...)
	var names []string
	for _, v := range vars {
		names = append(names, v.Name.Text+strings.Repeat("*", v.Depth))
	}
	if got := strings.Join(names, " "); got != want || e != api.OK {
		t.Errorf("Check of %.200s: %.200s, %d, not %.200s", text(pattern), got, e, want)
	}
}

// The chapter's example.
func TestExample(t *testing.T) {
	matches(t, rib.New(), one("(a b ... c)"), one("(1 2 3 4)"), "a=1 b*=[2 3] c=4")
	unmatched(t, api.OK, rib.New(), one("(a b ... c)"), one("(1)"))
}

// P12.1

func TestCheck(t *testing.T) {
	for _, row := range [][2]string{
		{"a", "a"}, {"_", ""}, {"else", ""}, {"1", ""}, {`"a"`, ""}, {`#\a`, ""}, {"#t", ""}, {"()", ""}, {"#()", ""},
		{"(a)", "a"}, {"(b a)", "b a"}, {"(_ _)", ""}, {"(else else =>)", ""}, {"(a else _ 1 b)", "a b"}, {"#(b a)", "b a"}, {"(b . a)", "b a"}, {"(b #((c . (d))) . a)", "b c d a"},
		{"(a ...)", "a*"}, {"#(a ...)", "a*"}, {"(a ... . b)", "a* b"}, {"(a b ... c)", "a b* c"}, {"#(a b ... c)", "a b* c"}, {"(a b ... c . d)", "a b* c d"}, {"(_ ...)", ""}, {"(else ... a)", "a"}, {"(1 ...)", ""}, {"(() ...)", ""},
		{"((a) ...)", "a*"}, {"((a b) ... c)", "a* b* c"}, {"((a ...) ...)", "a**"}, {"((a b ... c) ... d)", "a* b** c* d"}, {"(#((a ...) ... b) ... . c)", "a*** b* c"}, {"((a . b) ... . c)", "a* b* c"}, {"((a ... . b) ...)", "a** b*"},
		{"((a ...) (b ...))", "a* b*"}, {"((_ ...) (else ...) b ...)", "b*"}, {"(((((a) ...))) ...)", "a**"}, {"(a #(b ... c) (d . #(e ...)))", "a b* c d e*"},
		{"(.. .... __ ELSE Else a.)", ".. .... __ ELSE Else a."}, {"(quote quasiquote)", "quote quasiquote"},
	} {
		checks(t, one(row[0]), row[1], all("else =>")...)
	}
}

func TestCheckSyntax(t *testing.T) {
	for _, row := range []string{
		"...", "(...)", "(... a)", "(... ...)", "(... a ...)", "#(...)", "#(... a)", "(... . a)", "(a . ...)", "(a b . ...)", "(a ... . ...)", "(... . ...)",
		"(a ... ...)", "(a ... b ...)", "(a ... b c ... d)", "#(a ... b ...)", "#(a ... ...)", "(a ... b ... . c)", "(a ... ... . b)", "(a ... ... ...)", "(_ ... ...)", "(1 ... 2 ...)",
		"(a (...))", "(a (... b))", "(a #(...))", "((a ... b ...) ...)", "((... a) ...)", "(a . #(...))", "(a (b . ...))", "((((a ... b ...))))",
		"(a a)", "(a b a)", "#(a a)", "(a . a)", "(a b . a)", "(a (a))", "((a) (b (c #(a))))", "(a ... a)", "((a ...) a)", "((a ...) (a ...))", "((a b) ... (c b))", "(a #(b (c . a)))", "(b a c ... d a)",
		"(a a ...)", "(a ... . a)", "(else a => a)",
	} {
		refused(t, api.ErrSyntax, one(row), all("else =>")...)
	}
}

// What is Bound as one of the literals is one, whatever its name; what is not is none.
func TestLiterals(t *testing.T) {
	dots, low := sym("..."), sym("_")
	for _, row := range [][3]string{
		{"a", "a", ""}, {"a", "b", "a"}, {"(a b c)", "c a", "b"}, {"(a a a)", "a", ""}, {"(a a b b)", "b a", ""}, {"(a b a)", "b a c d", ""}, {"(a b)", "a a a a", "b"}, {"(a ...)", "a", ""}, {"(a b ...)", "a", "b*"},
		{"...", "...", ""}, {"(...)", "...", ""}, {"(a ...)", "...", "a"}, {"(... a ... b ...)", "...", "a b"}, {"(a . ...)", "...", "a"}, {"(a ... _)", "...", "a"}, {"(a ... _)", "_", "a*"}, {"(_ ...)", "_", ""}, {"(_ ...)", "_ ...", ""}, {"(_ ... _)", "... _", ""},
		{"(a b c d e f g)", "g f e d c b", "a"}, {"(a b c d e f g)", "f d b", "a c e g"}, {"(aa a ab b aaa)", "a b", "aa ab aaa"},
	} {
		checks(t, one(row[0]), row[2], all(row[1])...)
	}
	for _, row := range [][2]string{{"(a a)", "b"}, {"(a b a)", "b"}, {"(... a)", "_"}, {"(_ . ...)", "_"}, {"(a ... ...)", "_ a"}, {"(a a b)", "b aa"}} {
		refused(t, api.ErrSyntax, one(row[0]), all(row[1])...)
	}
	five := marked(sym("a"), 5)
	checks(t, list(sym("a"), five), "a a")
	checks(t, list(sym("a"), five), "a", five)
	checks(t, list(sym("a"), five, five, marked(sym("a"), 6)), "a a", five)
	checks(t, list(sym("a"), sym("a"), five), "a", sym("a"))
	checks(t, list(sym("a"), sym("a"), five, five), "", five, sym("a"))
	checks(t, list(sym("a"), ribbed(sym("a"), 1)), "", ribbed(sym("a"), 2)) // ribs do not count
	refused(t, api.ErrSyntax, list(sym("a"), ribbed(sym("a"), 1)))
	refused(t, api.ErrSyntax, list(five, sym("b"), five), sym("a"))
	checks(t, list(sym("a"), marked(dots, 5)), "a*")
	checks(t, list(sym("a"), marked(dots, 5)), "a*", dots)
	checks(t, list(sym("a"), marked(dots, 5)), "a", marked(dots, 5))
	checks(t, list(sym("a"), marked(dots, 5), dots, sym("b")), "a b", marked(dots, 5))
	checks(t, list(sym("a"), marked(dots, 5), dots, sym("b")), "a* b", dots)
	checks(t, list(marked(dots, 5), dots, sym("b")), "b", marked(dots, 5))
	refused(t, api.ErrSyntax, list(sym("a"), marked(dots, 5), dots, sym("b")), marked(dots, 6))
	refused(t, api.ErrSyntax, list(sym("a"), marked(dots, 5), sym("b"), dots))
	refused(t, api.ErrSyntax, list(dots, marked(dots, 5), sym("b")), marked(dots, 5))
	checks(t, list(low, marked(low, 5), low), "", low)
	unmatched(t, api.OK, rib.New(), list(low, marked(low, 5)), one("(1 1)"), low)
	matches(t, rib.New(), list(low, marked(low, 5)), one("(_ 1)"), "", low)
	matches(t, rib.New(), list(low, marked(low, 5)), one("(1 _)"), "", marked(low, 5))
}

// The wraps around count as those of the Symbols themselves do.
func TestWrapsAround(t *testing.T) {
	five := func(name string) api.Stx { return marked(sym(name), 5) }
	p := marked(one("(else a (else b) ...)"), 5)
	checks(t, p, "a b*", five("else"))
	refused(t, api.ErrSyntax, p, sym("else"))
	checks(t, marked(one("(else a _)"), 5), "else a", sym("else"), sym("a"), sym("_"))
	checks(t, marked(list(sym("a"), marked(sym("a"), 6), marked(list(sym("a")), 7, 8)), 5), "a a a")
	refused(t, api.ErrSyntax, marked(list(marked(sym("a"), 7), marked(vector(sym("a")), 7)), 5))
	refused(t, api.ErrSyntax, list(five("a"), marked(list(sym("a")), 5)))
	refused(t, api.ErrSyntax, marked(list(marked(sym("a"), 6), sym("b"), marked(sym("a"), -1, 5, 6)), 5))
	refused(t, api.ErrSyntax, list(sym("a"), marked(list(marked(sym("a"), api.Anti)), 5))) // the two marks take each other away
	checks(t, list(sym("a"), marked(list(marked(sym("a"), api.Anti)), 5)), "", sym("a"))
	checks(t, marked(list(sym("a"), marked(sym("..."), api.Anti)), 5), "a", sym("..."))
	refused(t, api.ErrSyntax, marked(list(sym("a"), marked(sym("..."), api.Anti), sym("...")), 5))
	checks(t, marked(list(sym("a"), marked(sym("..."), api.Anti), sym("...")), 5), "a", sym("..."))

	deep := placed(in(of(ints(5), ints(1, 0)), list(in(of(ints(6), ints(0, 2)), vector(in(of(ints(-1, 7), ints(3, 0, 0)), sym("a")), sym("..."))), sym("b"))))
	vars, e := pat.Check(deep)
	a := in(of(ints(5, 6), ints(1, 0, 0, 2)), sym("a"))
	if e == api.OK {
		t.Errorf("an Anti behind marks: %s", exactBinds(vars))
	}
	deep.List[0].List[0].Marks, deep.List[0].List[0].Subs = nil, nil
	vars, e = pat.Check(deep)
	a.At = deep.List[0].List[0].At
	b := in(of(ints(5), ints(1, 0)), sym("b"))
	b.At = deep.List[1].At
	want := []api.Bind{{Name: a, Depth: 1}, {Name: b}}
	if e != api.OK || exactBinds(vars) != exactBinds(want) {
		t.Errorf("%d\n%snot\n%s", e, exactBinds(vars), exactBinds(want))
	}
}

// ErrForm comes ahead of ErrSyntax, and both ahead of what is wrong with x, or the ribs.
func TestForm(t *testing.T) {
	r := rib.New()
	for _, bad := range strangers() {
		refused(t, api.ErrForm, bad)
		refused(t, api.ErrForm, bad, sym("x"))
		refused(t, api.ErrForm, bad, bad)
		for _, pattern := range []string{"a", "_", "(a b ...)", "else", "...", "(a a)", "(... a)", "1"} {
			refused(t, api.ErrForm, one(pattern), bad)
			refused(t, api.ErrForm, one(pattern), sym("a"), sym("b"), bad)
			refused(t, api.ErrForm, one(pattern), bad, sym("..."))
		}
		for _, pattern := range []string{"a", "_", "(a b ...)", "else", "()", "1"} {
			unmatched(t, api.ErrForm, r, one(pattern), bad, sym("else"))
			unmatched(t, api.ErrForm, nil, one(pattern), bad, sym("else"))
		}
		for _, pattern := range []string{"...", "(a a)", "(... a)"} {
			unmatched(t, api.ErrSyntax, r, one(pattern), bad, sym("else"))
			unmatched(t, api.ErrSyntax, nil, one(pattern), bad, sym("else"))
		}
	}
	for _, x := range all(`1 "a" #\a #t #f () (a) #() #(a) (a . b) ((a))`) {
		for _, pattern := range []string{"a", "...", "(a a)"} {
			refused(t, api.ErrForm, one(pattern), x)
			refused(t, api.ErrForm, one(pattern), sym("a"), x, sym("..."))
		}
		unmatched(t, api.ErrForm, nil, sym("a"), x)
		unmatched(t, api.ErrForm, nil, one("(a)"), x)
	}
	refused(t, api.ErrForm, sym("a"), void())
	refused(t, api.ErrForm, sym("..."), void())
}

// P12.2

// each row has a pattern, a piece, and the binds, or no if it does not match; else and => are literals.
func matchRows(t *testing.T, rows ...[3]string) {
	t.Helper()
	for _, row := range rows {
		pattern, x, literals := one(row[0]), one(row[1]), all("else =>")
		if row[2] == "no" {
			unmatched(t, api.OK, rib.New(), pattern, x, literals...)
			continue
		}
		matches(t, rib.New(), pattern, x, row[2], literals...)
	}
}

func TestLeaves(t *testing.T) {
	pieces := []string{"1", "-1", "0", "1000000000", "1000000000000000000000", `"a"`, `""`, `"b"`, `#\a`, `#\b`, "#t", "#f", "else", "=>", "()", "#()", "a", "b", "_", "...", "(1)", "#(1)", "(1 . 1)", "(else)", `("a")`, "((1))"}
	for i, x := range pieces {
		matches(t, rib.New(), one("_"), one(x), "")
		matches(t, rib.New(), one("a"), one(x), "a="+x)
		matches(t, rib.New(), one("(a)"), list(one(x)), "a="+x)
		for j, pattern := range pieces[:16] {
			p, literals := one(pattern), all("else =>")
			if i == j {
				matches(t, rib.New(), p, one(x), "", literals...)
				matches(t, rib.New(), list(p, sym("a")), list(one(x), void()), "a=#<void>", literals...)
				continue
			}
			unmatched(t, api.OK, rib.New(), p, one(x), literals...)
			unmatched(t, api.OK, rib.New(), list(p), list(one(x)), literals...)
			unmatched(t, api.OK, rib.New(), vector(sym("a"), p), vector(one(x), one(x)), literals...)
		}
		unmatched(t, api.OK, rib.New(), void(), one(x))
		unmatched(t, api.OK, rib.New(), one(x), void(), all("a b _ ... else =>")...)
	}
	matches(t, rib.New(), void(), void(), "")
	matches(t, rib.New(), one("_"), void(), "")
	great := api.Stx{Kind: api.Integer, Num: api.Int{Neg: true, Limbs: slices.Repeat([]uint32{api.Base - 1}, api.MaxLimbs)}}
	other := placed(great)
	matches(t, rib.New(), great, other, "")
	other.Num.Neg = false
	unmatched(t, api.OK, rib.New(), great, other)
	other.Num.Neg, other.Num.Limbs[0] = true, 0
	unmatched(t, api.OK, rib.New(), great, other)
	unmatched(t, api.OK, rib.New(), one(`"1"`), one("1"))
	unmatched(t, api.OK, rib.New(), one(`"a"`), one(`#\a`))
	unmatched(t, api.OK, rib.New(), api.Stx{Kind: api.Integer, Num: num.Of(97)}, one(`#\a`))
	// Wraps at them, and around them, mean nothing.
	for _, x := range all(`1 "a" #\a #t #f`) {
		matches(t, rib.New(), marked(x, 5), ribbed(x, 2), "")
		matches(t, rib.New(), marked(list(x), 5), in(of(ints(6), ints(1, 0)), list(marked(x, 7))), "")
	}
}

func TestLists(t *testing.T) {
	matchRows(t,
		[3]string{"()", "()", ""}, [3]string{"()", "(1)", "no"}, [3]string{"()", "#()", "no"}, [3]string{"#()", "#()", ""}, [3]string{"#()", "#(1)", "no"}, [3]string{"()", "else", "no"}, [3]string{"#()", "1", "no"},
		[3]string{"(a)", "(1)", "a=1"}, [3]string{"(a)", "()", "no"}, [3]string{"(a)", "(1 2)", "no"}, [3]string{"(a)", "#(1)", "no"}, [3]string{"#(a)", "(1)", "no"}, [3]string{"#(a)", "#(1)", "a=1"}, [3]string{"(a)", "(1 . 2)", "no"}, [3]string{"#(a)", "(1 . 2)", "no"}, [3]string{"(a)", "1", "no"}, [3]string{"(a)", "else", "no"},
		[3]string{"(b a)", "(1 2)", "b=1 a=2"}, [3]string{"(b a)", "(1 . 2)", "no"}, [3]string{"(b 1 a)", "((1) 1 (2 3))", "b=(1) a=(2 3)"}, [3]string{"(b 1 a)", "(1 2 3)", "no"}, [3]string{"#(b 1 a)", "#(0 1 2)", "b=0 a=2"}, [3]string{"#(b 1 a)", "#(0 1)", "no"}, [3]string{"(a b)", "(1 2 3)", "no"},
		[3]string{"(a (b #(c)) d)", "(1 (2 #(3)) 4)", "a=1 b=2 c=3 d=4"}, [3]string{"(a (b #(c)) d)", "(1 (2 (3)) 4)", "no"}, [3]string{"(a (b #(c)) d)", "(1 (2 #()) 4)", "no"}, [3]string{"(a (b) c)", "(1 2 3)", "no"},
		[3]string{"(else a)", "(else 1)", "a=1"}, [3]string{"(else a)", "(=> 1)", "no"}, [3]string{"(a else)", "(else a)", "no"}, [3]string{"(a else)", "(else else)", "a=else"}, [3]string{"(=> else)", "(=> else)", ""}, [3]string{"(_ else _)", "(1 else (2))", ""}, [3]string{"(_ else _)", "(1 else)", "no"},
		[3]string{"(quote a)", "'b", "quote=quote a=b"}, [3]string{"(a b c d e f g h)", "(1 2 3 4 5 6 7 8)", "a=1 b=2 c=3 d=4 e=5 f=6 g=7 h=8"},
	)
}

func TestEllipses(t *testing.T) {
	matchRows(t,
		[3]string{"(a ...)", "()", "a*=[]"}, [3]string{"(a ...)", "(1)", "a*=[1]"}, [3]string{"(a ...)", "(1 (2) #(3))", "a*=[1 (2) #(3)]"}, [3]string{"(a ...)", "#()", "no"}, [3]string{"(a ...)", "#(1)", "no"}, [3]string{"(a ...)", "(1 . 2)", "no"}, [3]string{"(a ...)", "1", "no"}, [3]string{"(a ...)", "else", "no"},
		[3]string{"#(a ...)", "#()", "a*=[]"}, [3]string{"#(a ...)", "#(1 2)", "a*=[1 2]"}, [3]string{"#(a ...)", "()", "no"}, [3]string{"#(a ...)", "(1)", "no"},
		[3]string{"(a b ... c d)", "(1 2 3)", "a=1 b*=[] c=2 d=3"}, [3]string{"(a b ... c d)", "(1 2 3 4)", "a=1 b*=[2] c=3 d=4"}, [3]string{"(a b ... c d)", "(1 2 3 4 5 6)", "a=1 b*=[2 3 4] c=5 d=6"}, [3]string{"(a b ... c d)", "(1 2)", "no"}, [3]string{"(a b ... c d)", "()", "no"}, [3]string{"#(a b ... c)", "#(1 2)", "a=1 b*=[] c=2"}, [3]string{"#(a b ... c)", "#(1)", "no"},
		[3]string{"(a ... b)", "(1)", "a*=[] b=1"}, [3]string{"(a ... b)", "(1 2 3)", "a*=[1 2] b=3"}, [3]string{"(a ... b)", "()", "no"}, [3]string{"(a b ...)", "()", "no"}, [3]string{"(a b ...)", "(1)", "a=1 b*=[]"},
		[3]string{"(1 ...)", "()", ""}, [3]string{"(1 ...)", "(1 1 1)", ""}, [3]string{"(1 ...)", "(1 1 2)", "no"}, [3]string{"(1 ...)", "(2 1 1)", "no"}, [3]string{"(1 ...)", "(1 2 1)", "no"}, [3]string{"(1 ... a)", "(1 1 2)", "a=2"}, [3]string{"(1 ... a)", "(1 2 2)", "no"}, [3]string{"(1 ... 2 ())", "(1 2 ())", ""}, [3]string{"(1 ... 2)", "(1 1)", "no"}, [3]string{"(a ... 2 3)", "(1 2 3)", "a*=[1]"}, [3]string{"(a ... 2 3)", "(2 3 1)", "no"},
		[3]string{"(else ...)", "(else else)", ""}, [3]string{"(else ...)", "(else =>)", "no"}, [3]string{"(_ ...)", "(1 (2) a)", ""}, [3]string{"(_ ... a)", "(1 2 3)", "a=3"}, [3]string{"(() ...)", "(() ())", ""}, [3]string{"(() ...)", "(() #())", "no"},
		[3]string{"((a b) ...)", "()", "a*=[] b*=[]"}, [3]string{"((a b) ...)", "((1 2) (3 4) (5 6))", "a*=[1 3 5] b*=[2 4 6]"}, [3]string{"((a b) ...)", "((1 2) (3))", "no"}, [3]string{"((a b) ...)", "((1 2) 3)", "no"}, [3]string{"(let ((n v) ...) b c ...)", "(let ((x 1) (y 2)) z)", "let=let n*=[x y] v*=[1 2] b=z c*=[]"},
		[3]string{"((a ...) ...)", "()", "a**=[]"}, [3]string{"((a ...) ...)", "(())", "a**=[[]]"}, [3]string{"((a ...) ...)", "(() (1) () (2 3))", "a**=[[] [1] [] [2 3]]"}, [3]string{"((a ...) ...)", "(() 1)", "no"}, [3]string{"((a b ... c) ... d)", "((1 2) (3 4 5 6) 7)", "a*=[1 3] b**=[[] [4 5]] c*=[2 6] d=7"}, [3]string{"((a b ... c) ... d)", "((1 2) (3) 7)", "no"},
		[3]string{"((a (b c ...) ...) ...)", "((1 (2 3 4) (5)) (6))", "a*=[1 6] b**=[[2 5] []] c***=[[[3 4] []] []]"}, [3]string{"(((a ...) ...) ...)", "(() (()) (() (1)))", "a***=[[] [[]] [[] [1]]]"}, [3]string{"((#(a) ...) (b ...))", "((#(1) #(2)) (3))", "a*=[1 2] b*=[3]"},
		[3]string{"((else a) ... (=> b))", "((else 1) (else 2) (=> 3))", "a*=[1 2] b=3"}, [3]string{"((else a) ... (=> b))", "((else 1) (=> 2) (=> 3))", "no"}, [3]string{"((b a ...) ... c ())", "((1 2) (3) 4 ())", "b*=[1 3] a**=[[2] []] c=4"},
	)
}

func TestDotted(t *testing.T) {
	matchRows(t,
		[3]string{"(a . b)", "(1)", "a=1 b=()"}, [3]string{"(a . b)", "(1 2)", "a=1 b=(2)"}, [3]string{"(a . b)", "(1 2 3)", "a=1 b=(2 3)"}, [3]string{"(a . b)", "(1 . 2)", "a=1 b=2"}, [3]string{"(a . b)", "(1 2 . 3)", "a=1 b=(2 . 3)"}, [3]string{"(a . b)", "(1 2 3 . 4)", "a=1 b=(2 3 . 4)"}, [3]string{"(a . b)", "(1 . #(2))", "a=1 b=#(2)"},
		[3]string{"(a . b)", "()", "no"}, [3]string{"(a . b)", "#(1 2)", "no"}, [3]string{"(a . b)", "1", "no"}, [3]string{"(a . b)", "else", "no"},
		[3]string{"(a b . c)", "(1 2)", "a=1 b=2 c=()"}, [3]string{"(a b . c)", "(1)", "no"}, [3]string{"(a b . c)", "(1 . 2)", "no"}, [3]string{"(a b . c)", "(1 2 . 3)", "a=1 b=2 c=3"}, [3]string{"(a b . c)", "(1 2 3 4)", "a=1 b=2 c=(3 4)"}, [3]string{"(a b . c)", "(1 2 3 . 4)", "a=1 b=2 c=(3 . 4)"}, [3]string{"(a b c . d)", "(1 2)", "no"},
		[3]string{"(a . _)", "(1 2)", "a=1"}, [3]string{"(a . _)", "(1 . 2)", "a=1"}, [3]string{"(a . 2)", "(1 . 2)", "a=1"}, [3]string{"(a . 2)", "(1 2)", "no"}, [3]string{"(a . 2)", "(1 . 3)", "no"}, [3]string{"(a . 2)", "(1)", "no"}, [3]string{"(a . 2)", "(1 3 . 2)", "no"}, [3]string{"(a . else)", "(1 . else)", "a=1"}, [3]string{"(a . else)", "(1 else)", "no"}, [3]string{"(a . else)", "(1 . =>)", "no"}, [3]string{"(a . #(b ...))", "(1 . #(2 3))", "a=1 b*=[2 3]"}, [3]string{"(a . #(b ...))", "(1)", "no"}, [3]string{"(a . #())", "(1)", "no"}, [3]string{"(a . #())", "(1 . #())", "a=1"}, [3]string{"(1 . a)", "(2 . 3)", "no"}, [3]string{"(1 . a)", "(1 . 3)", "a=3"}, [3]string{"(1 . a)", "(2 1 3)", "no"},
		[3]string{"((a . b) . c)", "((1 2) 3)", "a=1 b=(2) c=(3)"}, [3]string{"((a . b) . c)", "((1 . 2) . 3)", "a=1 b=2 c=3"}, [3]string{"((a . b) ...)", "((1) (2 . 3) (4 5))", "a*=[1 2 4] b*=[() 3 (5)]"}, [3]string{"((a . b) ...)", "((1) ())", "no"},
		[3]string{"(a ... . b)", "()", "a*=[] b=()"}, [3]string{"(a ... . b)", "(1 2)", "a*=[1 2] b=()"}, [3]string{"(a ... . b)", "(1 2 . 3)", "a*=[1 2] b=3"}, [3]string{"(a ... . b)", "(1 . 3)", "a*=[1] b=3"}, [3]string{"(a ... . b)", "#(1)", "no"}, [3]string{"(a ... . b)", "1", "no"}, [3]string{"(a ... . b)", "(1 . #(3))", "a*=[1] b=#(3)"},
		[3]string{"(a b ... c . d)", "(1 2)", "a=1 b*=[] c=2 d=()"}, [3]string{"(a b ... c . d)", "(1 2 3 4 . 5)", "a=1 b*=[2 3] c=4 d=5"}, [3]string{"(a b ... c . d)", "(1 2 . 5)", "a=1 b*=[] c=2 d=5"}, [3]string{"(a b ... c . d)", "(1)", "no"}, [3]string{"(a b ... c . d)", "(1 . 2)", "no"}, [3]string{"(a b ... c . d)", "()", "no"}, [3]string{"(a b ... . d)", "()", "no"},
		[3]string{"(a ... . 3)", "(1 2 . 3)", "a*=[1 2]"}, [3]string{"(a ... . 3)", "(1 2 3)", "no"}, [3]string{"(a ... . 3)", "(1 2)", "no"}, [3]string{"(1 ... . a)", "(1 1 . 2)", "a=2"}, [3]string{"(1 ... . a)", "(1 1 2)", "no"}, [3]string{"(1 ... . a)", "(1 1 2 . 3)", "no"}, [3]string{"(a ... . else)", "(1 . else)", "a*=[1]"}, [3]string{"(a ... . _)", "(1 . 2)", "a*=[1]"}, [3]string{"(a ... . #(b))", "(1 . #(2))", "a*=[1] b=2"}, [3]string{"(a ... . #(b))", "(1 2)", "no"},
		[3]string{"((a ... . b) ...)", "(() (1) (2 3 . 4))", "a**=[[] [1] [2 3]] b*=[() () 4]"}, [3]string{"((a ... . b) ... . c)", "((1 . 2) . 3)", "a**=[[1]] b*=[2] c=3"}, [3]string{"((a ... . b) ... . c)", "(1 . 3)", "no"},
		[3]string{"(a b c)", "(1 2 . 3)", "no"}, [3]string{"(a b)", "(1 2 . 3)", "no"}, [3]string{"(a . (b . c))", "(1 2 . 3)", "a=1 b=2 c=3"}, [3]string{"(a . (b))", "(1 . (2))", "a=1 b=2"},
	)
}

// A literal matches what is Free as the Symbol in the pattern, whatever the names.
func TestFree(t *testing.T) {
	r := rib.New()
	first, second := r.Rib(), r.Rib()
	for i, x := range []api.Stx{sym("x"), sym("y"), marked(sym("z"), 5)} {
		r.Put(first, x, 7+i/2)
		r.Put(second, x, 8-i/2)
	}
	literals := []api.Stx{sym("x"), sym("y"), marked(sym("x"), 5), sym("z")}
	for _, p := range []api.Stx{sym("x"), ribbed(sym("x"), first), ribbed(sym("y"), first), ribbed(sym("x"), second), marked(sym("x"), 5), in(of(ints(5), ints(first, 0)), sym("x")), in(of(ints(5), ints(0, first)), sym("x")), sym("z"), ribbed(sym("z"), 1)} {
		for _, x := range []api.Stx{sym("x"), sym("y"), sym("z"), marked(sym("x"), 9), ribbed(sym("x"), first), ribbed(sym("y"), first), ribbed(sym("x"), first, second), ribbed(sym("y"), second), in(of(ints(5), ints(first, 0)), sym("z")), in(of(ints(5), ints(second, 0)), sym("z")), in(of(ints(6), ints(0, first)), sym("x"))} {
			if r.Free(p, x) {
				matches(t, r, p, x, "", literals...)
				matches(t, r, list(p, sym("a")), list(x, sym("b")), "a=b", literals...)
			} else {
				unmatched(t, api.OK, r, p, x, literals...)
				unmatched(t, api.OK, r, list(p, sym("a")), list(x, sym("b")), literals...)
			}
		}
	}
	matches(t, r, ribbed(list(sym("x")), first), ribbed(list(ribbed(sym("y"), second)), first), "", sym("x")) // by the wraps around
	unmatched(t, api.OK, r, ribbed(list(sym("x")), first), list(ribbed(sym("y"), second)), sym("x"))
	unmatched(t, api.OK, r, ribbed(list(sym("x")), first), one("(x)"), sym("x"))
	matches(t, r, ribbed(list(sym("x")), first), in(of(ints(3), ints(0)), list(in(of(ints(-1), ints(0, first)), sym("y")))), "", sym("x"))
	// The literals' own ribs do not count, but those of the Symbol in the pattern.
	matches(t, r, sym("x"), sym("x"), "", ribbed(sym("x"), first))
	unmatched(t, api.OK, r, sym("x"), ribbed(sym("x"), first), ribbed(sym("x"), first))
	matches(t, r, list(sym("..."), ribbed(sym("_"), first)), one("(... _)"), "", sym("..."), sym("_"))
}

// The Trees' pieces are those of x, Pushed by what stands around them; a rest stands where x does.
func TestPieces(t *testing.T) {
	push := func(w wrap.Wrap, x api.Stx) api.Stx {
		y, e := stx.Push(x, w)
		if e != api.OK {
			t.Fatalf("Push: %d", e)
		}
		return y
	}
	outer, middle, inner := of(ints(5), ints(1, 0, 2)), of(ints(6), ints(0)), of(ints(7, 8), ints(3, 0, 0))
	x := placed(in(outer, list(marked(sym("p"), 9), in(middle, dotted(one("1"), in(inner, vector(sym("q"), in(inner, sym("r")))), ribbed(sym("s"), 4))), in(middle, list(sym("t"), marked(sym("u"), 9))))))
	both, e := wrap.Join(outer, middle)
	if e != api.OK {
		t.Fatal(e)
	}
	p, d, l := x.List[0], x.List[1], x.List[2]
	binds := func(pattern string, trees ...api.Tree) {
		t.Helper()
		got := matched(t, rib.New(), one(pattern), x)
		if len(got) != len(trees) {
			t.Fatalf("%s: %d binds", pattern, len(got))
		}
		for i, b := range got {
			if exactTree(b.Tree) != exactTree(trees[i]) {
				t.Errorf("%s, %s: %s, not %s", pattern, b.Name.Text, exactTree(b.Tree), exactTree(trees[i]))
			}
		}
	}
	rest := func(of api.Stx, w wrap.Wrap, from int) api.Tree {
		left := group(of.Kind)
		left.At = of.At
		for _, in := range of.List[from:] {
			left.List = append(left.List, push(w, in))
		}
		return leaf(left)
	}
	binds("a", leaf(x))
	binds("(a b c)", leaf(push(outer, p)), leaf(push(outer, d)), leaf(push(outer, l)))
	binds("(a ...)", many(leaf(push(outer, p)), leaf(push(outer, d)), leaf(push(outer, l))))
	binds("(a . b)", leaf(push(outer, p)), rest(x, outer, 1))
	binds("(a b c . d)", leaf(push(outer, p)), leaf(push(outer, d)), leaf(push(outer, l)), rest(x, outer, 3))
	binds("(a ... . d)", many(leaf(push(outer, p)), leaf(push(outer, d)), leaf(push(outer, l))), rest(x, outer, 3))
	binds("(_ (a . b) (c . d))", leaf(push(both, d.List[0])), rest(d, both, 1), leaf(push(both, l.List[0])), rest(l, both, 1))
	binds("(_ (a b . c) (d ... . e))", leaf(push(both, d.List[0])), leaf(push(both, d.List[1])), leaf(push(both, d.List[2])), many(leaf(push(both, l.List[0])), leaf(push(both, l.List[1]))), rest(l, both, 2))
	binds("(_ (a ... . b) (c ...))", many(leaf(push(both, d.List[0])), leaf(push(both, d.List[1]))), leaf(push(both, d.List[2])), many(leaf(push(both, l.List[0])), leaf(push(both, l.List[1]))))
	within, e := wrap.Join(both, inner)
	if e != api.OK {
		t.Fatal(e)
	}
	v := d.List[1]
	binds("(_ (a #(b c) . d) . e)", leaf(push(both, d.List[0])), leaf(push(within, v.List[0])), leaf(push(within, v.List[1])), leaf(push(both, d.List[2])), rest(x, outer, 2))
	binds("(_ (_ #(b ...) . d) _)", many(leaf(push(within, v.List[0])), leaf(push(within, v.List[1]))), leaf(push(both, d.List[2])))
	binds("(_ (a . b) ...)", many(leaf(push(both, d.List[0])), leaf(push(both, l.List[0]))), many(rest(d, both, 1), rest(l, both, 1)))
}

// A piece may be sound for what stands around it alone; the Join from the outermost wrap on counts.
func TestPiecesOfAntis(t *testing.T) {
	anti := func(x api.Stx) api.Stx { return marked(x, api.Anti) }
	x := marked(list(anti(list(anti(list(sym("x"), anti(sym("y")))))), sym("z")), 4, 5, 6)
	if !stx.Sound(x) || stx.Sound(x.List[0]) {
		t.Fatal("not what it should be")
	}
	r := rib.New()
	matches(t, r, one("(((a b)) c)"), x, "a=x b=y c=z")
	for i, want := range []api.Stx{marked(sym("x"), 4), sym("y"), marked(sym("z"), 4, 5, 6)} {
		if got := matched(t, r, one("(((a b)) c)"), x)[i].Tree.One; exact(got) != exact(want) {
			t.Errorf("%s, not %s", exact(got), exact(want))
		}
	}
	want := marked(list(anti(list(sym("x"), anti(sym("y"))))), 4, 5)
	if got := matched(t, r, one("(a . b)"), x)[0].Tree.One; exact(got) != exact(want) {
		t.Errorf("%s, not %s", exact(got), exact(want))
	}
	checks(t, x, "x y z")
	matches(t, r, x, one("(((1 2)) 3)"), "x=1 y=2 z=3")
	vars, _ := pat.Check(x)
	for i, want := range []api.Stx{marked(sym("x"), 4), sym("y"), marked(sym("z"), 4, 5, 6)} {
		if exact(vars[i].Name) != exact(want) {
			t.Errorf("%s, not %s", exact(vars[i].Name), exact(want))
		}
	}
	checks(t, x, "x z", sym("y"))
	matches(t, r, x, one("(((1 y)) 3)"), "x=1 z=3", sym("y"))
	unmatched(t, api.OK, r, x, one("(((1 2)) 3)"), sym("y"))
}

// Limits

// names answers n names.
func names(n int) []string {
	var list []string
	for i := range n {
		list = append(list, fmt.Sprintf("v%d", i))
	}
	return list
}

func TestManyVariables(t *testing.T) {
	const most = api.MaxNodes - 1
	r := rib.New()
	wide, digits := one("("+strings.Join(names(most), " ")+")"), one("("+strings.Repeat("7 ", most)+")")
	for i, b := range matched(t, r, wide, digits) {
		if b.Name.Text != fmt.Sprintf("v%d", i) || b.Depth != 0 || grown(b.Tree) != "7" {
			t.Fatalf("variable %d: %s", i, told([]api.Bind{b}))
		}
	}
	wide.List[0], wide.List[most-1] = sym("w"), sym("w")
	refused(t, api.ErrSyntax, wide)
	matches(t, r, one("(a ... b)"), digits, "a*=["+strings.Repeat("7 ", most-2)+"7] b=7")
	for i := range wide.List { // one name, all marks
		wide.List[i] = marked(sym("w"), 1+i/100, 1+i%100)
	}
	if binds := matched(t, r, wide, digits); len(binds) != most {
		t.Errorf("%d", len(binds))
	}
	wide.List[1] = marked(sym("w"), 1+4000/100, 1+4000%100)
	refused(t, api.ErrSyntax, wide)
	wide.List[1] = marked(sym("w"), 1, 2)
	literals := slices.Clone(wide.List)
	slices.Reverse(literals)
	checks(t, wide, "", literals...)
	unmatched(t, api.OK, r, wide, digits, literals...)
	matches(t, r, wide, wide, "", append(slices.Repeat([]api.Stx{sym("x")}, 50000), literals...)...)
}

func TestDeep(t *testing.T) {
	const most = api.MaxDepth - 1
	r := rib.New()
	p, x, want := "a", "7", "7"
	for range most {
		p, x, want = "("+p+" ...)", "("+x+")", "["+want+"]"
	}
	matches(t, r, one(p), one(x), "a"+strings.Repeat("*", most)+"="+want)
	unmatched(t, api.OK, r, one(p), one(strings.Repeat("(", most-1)+"7"+strings.Repeat(")", most-1)))
	matches(t, r, one(p), one("()"), "a"+strings.Repeat("*", most)+"=[]")
	matches(t, r, nested(most, sym("a")), nested(most, sym("b")), "a=b")
	unmatched(t, api.OK, r, nested(most, sym("a")), nested(most, sym("b")), sym("a"))
	unmatched(t, api.OK, r, nested(most, sym("a")), nested(most-1, sym("b")))
	matches(t, r, nested(most-1, sym("a")), nested(most, sym("b")), "a=(b)")
	// As many marks and ribs as may be, from all that stands around.
	around := list(sym("a"), sym("else"))
	around = ribbed(around, 9)
	for i := range api.MaxDepth - 2 {
		around = marked(list(around), 1+i, 2+i, 3+i)
	}
	els := marked(sym("else"), flat(around).Marks...)
	got := matched(t, r, around, nested(api.MaxDepth-2, one("(1 else)")), els)
	if len(got) != 1 || len(got[0].Name.Marks) != 3*(api.MaxDepth-2) || len(got[0].Name.Subs) != 3*(api.MaxDepth-2)+1 {
		t.Errorf("%s", exactBinds(got))
	}
	got = matched(t, r, nested(api.MaxDepth-2, one("(a else)")), around, sym("else"))
	if len(got) != 1 || len(got[0].Tree.One.Marks) != 3*(api.MaxDepth-2) || got[0].Tree.One.Subs[3*(api.MaxDepth-2)] != 9 {
		t.Errorf("%s", exactBinds(got))
	}
}

// flat is the innermost first Symbol of x, with all wraps.
func flat(x api.Stx) api.Stx {
	y, _ := stx.Flat(x)
	for y.Kind != api.Symbol {
		y = y.List[0]
	}
	return y
}

// Very many trees, of which none has anything in it; and where they are not asked for in the end, none are made.
func TestManyTrees(t *testing.T) {
	r := rib.New()
	inner := "((" + strings.Join(names(100), " ") + ") ...)"
	empties := "(" + strings.Repeat("() ", 1000) + ")"
	binds := matched(t, r, one("("+inner+" ...)"), one(empties))
	if len(binds) != 100 {
		t.Fatalf("%d", len(binds))
	}
	for _, b := range binds {
		if b.Depth != 2 || !b.Tree.Many || len(b.Tree.All) != 1000 || exactTree(b.Tree.All[999]) != exactTree(many()) {
			t.Fatalf("%s", told([]api.Bind{b}))
		}
	}
	inner = "((" + strings.Join(names(4000), " ") + ") ...)"
	empties = "(" + strings.Repeat("() ", 4000) + ")"
	p, x := one("(("+inner+" ...) 1)"), one("("+empties+" 2)")
	var ahead, behind runtime.MemStats
	runtime.ReadMemStats(&ahead)
	unmatched(t, api.OK, r, p, x)
	runtime.ReadMemStats(&behind)
	if used := behind.TotalAlloc - ahead.TotalAlloc; used > 1<<28 {
		t.Errorf("%d bytes, and no match", used)
	}
}

// Memory

// spoilt is what stands nowhere else.
const spoilt = 987654321

// spoil writes over all lists of x, spare room among it, and tells if one of them had been written over.
func spoil(x api.Stx) bool {
	shared := false
	for _, in := range x.List {
		shared = spoil(in) || shared
	}
	for _, list := range [][]int{x.Marks[:cap(x.Marks)], x.Subs[:cap(x.Subs)]} {
		for i := range list {
			shared = shared || list[i] == spoilt
			list[i] = spoilt
		}
	}
	limbs, pieces := x.Num.Limbs[:cap(x.Num.Limbs)], x.List[:cap(x.List)]
	for i := range limbs {
		shared = shared || limbs[i] == spoilt
		limbs[i] = spoilt
	}
	for i := range pieces {
		shared = shared || pieces[i].At == spoilt
		pieces[i] = api.Stx{At: spoilt}
	}
	return shared
}

// spoilTree does so with a tree.
func spoilTree(tree api.Tree) bool {
	shared := spoil(tree.One)
	for _, in := range tree.All {
		shared = spoilTree(in) || shared
	}
	trees := tree.All[:cap(tree.All)]
	for i := range trees {
		shared = shared || trees[i].One.At == spoilt
		trees[i] = api.Tree{One: api.Stx{At: spoilt}}
	}
	return shared
}

// spoilBinds does so with binds.
func spoilBinds(binds []api.Bind) bool {
	shared := false
	for _, b := range binds {
		named := spoil(b.Name)
		shared = spoilTree(b.Tree) || named || shared
	}
	binds = binds[:cap(binds)]
	for i := range binds {
		binds[i] = api.Bind{Depth: spoilt}
	}
	return shared
}

// roomy is x with memory of its own, each list of it with room to spare, in which stand things of their own.
func roomy(x api.Stx) api.Stx {
	x.Num.Limbs = append(slices.Clone(x.Num.Limbs), 91, 92)[:len(x.Num.Limbs)]
	x.Marks = append(slices.Clone(x.Marks), 93, 94)[:len(x.Marks)]
	x.Subs = append(slices.Clone(x.Subs), 95, 96)[:len(x.Subs)]
	n := len(x.List)
	x.List = append(slices.Clone(x.List), sym("spare"), sym("room"))[:n]
	for i, in := range x.List {
		x.List[i] = roomy(in)
	}
	return x
}

// room is what all lists of x have in all of their room, as a text.
func room(x api.Stx) string {
	s := fmt.Sprint(x.Kind, x.Text, x.At, x.Num.Limbs[:cap(x.Num.Limbs)], x.Marks[:cap(x.Marks)], x.Subs[:cap(x.Subs)])
	for _, in := range x.List[:cap(x.List)] {
		s += "(" + room(in) + ")"
	}
	return s
}

// What is handed in is neither changed nor kept, and what is answered shares nothing, also among itself.
func TestMemory(t *testing.T) {
	xs := []api.Stx{
		marked(list(marked(sym("a"), 6), one("100000000000000000000"), ribbed(one("(b c 10000000000 . d)"), 3), one("#(e (f) g)"), marked(list(one("(h i)"), one("(j)"), one("(k)")), 7)), 5),
		in(of(ints(5), ints(2, 0, 3)), sym("x")), one("10000000000"), marked(one("(a b c . d)"), 5), one("((1 . 2) (3 4) (5 6 . 7))"),
	}
	patterns := []string{"a", "_", "(a . b)", "(a b . c)", "(a ...)", "(a b ...)", "(a ... . b)", "(a b c d e)", "(a b (c . d) #(e f ...) . g)", "(a b (c d ... e . f) #(g ...) ((h i ...) ...))", "((a . b) ...)", "(a ... b)", "(else a ... b c)"}
	fits := 0
	for _, x := range xs {
		for _, text := range patterns {
			p, x := roomy(in(of(ints(5), ints(4, 0)), placed(one(text)))), roomy(placed(x))
			literals := append(make([]api.Stx, 0, 9), roomy(marked(sym("y"), 1)), roomy(in(of(ints(5), ints(7, 0)), sym("else"))), roomy(marked(sym("b"), 2)))
			all := func() string {
				s := room(p) + room(x)
				for _, x := range literals[:cap(literals)] {
					s += room(x)
				}
				return s
			}
			before := all()
			vars, e := pat.Check(p, literals...)
			other, _ := pat.Check(p, literals...)
			binds, ok, f := pat.Match(rib.New(), p, x, literals...)
			again, _, _ := pat.Match(rib.New(), p, x, literals...)
			if e != api.OK || f != api.OK {
				t.Fatalf("%s: %d, %d", text, e, f)
			}
			if ok {
				fits++
			}
			wants := []string{exactBinds(other), exactBinds(again)}
			if exactBinds(vars) != wants[0] || exactBinds(binds) != wants[1] {
				t.Errorf("%s: not twice the same", text)
			}
			if spoilBinds(vars) || spoilBinds(binds) {
				t.Errorf("%s: the answer shares memory", text)
			}
			if all() != before {
				t.Fatalf("%s: what was handed in was changed", text)
			}
			for _, x := range append(literals, p, x) {
				spoil(x)
			}
			if exactBinds(other) != wants[0] || exactBinds(again) != wants[1] {
				t.Errorf("%s: the answer hangs on what was handed in, or answered ahead", text)
			}
		}
	}
	if fits < 25 {
		t.Errorf("only %d", fits)
	}
}

// Nothing changes in the ribs.
func TestRibsStay(t *testing.T) {
	r := rib.New()
	n := r.Rib()
	r.Put(n, sym("x"), 7)
	matches(t, r, one("(a else ...)"), ribbed(one("(x else else)"), n), "a=x", sym("else"))
	unmatched(t, api.OK, r, one("(a else ...)"), ribbed(one("(x else x)"), n), sym("else"))
	if label, e := r.Find(ribbed(sym("x"), n)); label != 7 || e != api.OK || r.Fresh() != 1 || r.Rib() != n+1 {
		t.Errorf("%d, %d", label, e)
	}
}
