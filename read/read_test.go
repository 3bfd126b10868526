package read_test

import (
	"fmt"
	"math"
	"slices"
	"strings"
	"testing"

	"marginalia/api"
	"marginalia/num"
	"marginalia/read"
)

// The datums that tests want, each with the place where it stands.

func leaf(kind int, text string, at int) api.Datum {
	return api.Datum{Kind: kind, Text: text, At: at}
}
func sym(text string, at int) api.Datum { return leaf(api.Symbol, text, at) }
func str(text string, at int) api.Datum { return leaf(api.String, text, at) }
func chr(text string, at int) api.Datum { return leaf(api.Char, text, at) }
func whole(n, at int) api.Datum {
	return api.Datum{Kind: api.Integer, Num: num.Of(n), At: at}
}
func group(kind, at int, list ...api.Datum) api.Datum {
	return api.Datum{Kind: kind, List: list, At: at}
}
func list(at int, in ...api.Datum) api.Datum   { return group(api.List, at, in...) }
func dotted(at int, in ...api.Datum) api.Datum { return group(api.Dotted, at, in...) }
func vector(at int, in ...api.Datum) api.Datum { return group(api.Vector, at, in...) }

// abbrev is what an abbreviation of name and a datum are.
func abbrev(name string, at int, d api.Datum) api.Datum { return list(at, sym(name, at), d) }

// alike tells if both are the same, places among it.
func alike(a, b api.Datum) bool {
	if a.Kind != b.Kind || a.Text != b.Text || a.At != b.At || a.Num.Neg != b.Num.Neg {
		return false
	}
	return slices.Equal(a.Num.Limbs, b.Num.Limbs) && slices.EqualFunc(a.List, b.List, alike)
}

// copied is d with memory of its own.
func copied(d api.Datum) api.Datum {
	d.Num.Limbs = slices.Clone(d.Num.Limbs)
	d.List = slices.Clone(d.List)
	for i := range d.List {
		d.List[i] = copied(d.List[i])
	}
	return d
}

// brief is what tests tell of a datum, or of several.
func brief(x any) string {
	text := fmt.Sprint(x)
	return text[:min(len(text), 200)]
}

// reads holds what Read answers of text against its datums.
func reads(t *testing.T, text string, depth int, want ...api.Datum) {
	t.Helper()
	got, at, e := read.Read([]byte(text), depth)
	if e != api.OK || at != 0 || !slices.EqualFunc(got, want, alike) {
		t.Errorf("Read of %.60q, depth %d: %s, %d, %d, not %s", text, depth, brief(got), at, e, brief(want))
	}
}

// fails tells if Read gives text up with that error at that place.
func fails(t *testing.T, text string, depth, place int, want api.Errno) {
	t.Helper()
	got, at, e := read.Read([]byte(text), depth)
	if e != want || at != place || got != nil {
		t.Errorf("Read of %.60q, depth %d: %s, %d, %d, not error %d at %d", text, depth, brief(got), at, e, want, place)
	}
}

// P4.1

func TestDepthArgument(t *testing.T) {
	for _, depth := range []int{math.MinInt, -1, 0, api.MaxDepth + 1, math.MaxInt} {
		for _, text := range []string{"", "a", ")", "a 1b", "\xFF", "((", strings.Repeat("a", api.MaxText+1)} {
			fails(t, text, depth, 0, api.ErrArg)
		}
	}
	for _, depth := range []int{1, 2, api.MaxDepth - 1, api.MaxDepth} {
		reads(t, "a", depth, sym("a", 0))
		reads(t, "", depth)
		reads(t, "()", depth, list(0))
	}
}

func TestBytes(t *testing.T) {
	for _, c := range []struct {
		text string
		at   int
	}{
		{"\xFF", 0}, {"a\x80", 1}, {"a\xC0\x80", 1}, {"\u00E4\xED\xA0\x80", 2}, {"\u20AC\U0001F600\xE2\x82", 7}, {"(\u00E4 . \xF4\x90\x80\x80)", 6},
		{") \xFF", 2}, {"1b\u00E4 \"\xFF", 6}, {"; \u00E4\xFF\n", 4}, // ahead of all that words are
	} {
		fails(t, c.text, api.MaxDepth, c.at, api.ErrUtf)
		fails(t, c.text, 1, c.at, api.ErrUtf)
	}
	full := strings.Repeat(" ", api.MaxText-1) + "a"
	reads(t, full, 1, sym("a", api.MaxText-1))
	fails(t, full+" ", 1, 0, api.ErrLarge)
	fails(t, strings.Repeat("\u00E4", api.MaxText/2)+"\xFF", 1, 0, api.ErrLarge)
	fails(t, strings.Repeat(")", api.MaxText+1), 1, 0, api.ErrLarge)
}

// What chapter 3 refuses counts, wherever it stands, ahead of what is wrong with the words' order; its place counts characters.
func TestWords(t *testing.T) {
	for _, c := range []struct {
		text string
		at   int
	}{
		{"1b", 0}, {"a 1b", 2}, {"\u00E4 1b", 2}, {"\U0001F600\u20AC\u00E4 \"", 4}, {"; \u00E4\n #\\xx", 5}, {"(\"\u00E4\\q\")", 1}, {"#", 0}, {"'#foo", 1},
		{") 1b", 2}, {". 1b", 2}, {"((((1b", 4}, {"' 1b", 2}, {"(a . b c) \"", 10}, {"'''''a 1b", 7},
	} {
		fails(t, c.text, 1, c.at, api.ErrRead)
		fails(t, c.text, api.MaxDepth, c.at, api.ErrRead)
	}
	fails(t, strings.Repeat("a ", api.MaxNodes+1)+"\"", 1, 2*api.MaxNodes+2, api.ErrRead)
}

func TestOrder(t *testing.T) {
	for _, c := range []struct {
		text string
		at   int
	}{
		{")", 0}, {"a)", 1}, {"())", 2}, {"#())", 3}, {"(a) b )", 6}, {"\u00E4 \"\u20AC\" )", 6}, // closes nothing
		{".", 0}, {". a", 0}, {"a . b", 2}, {"(.)", 1}, {"(. a)", 1}, {"(a (. b))", 4}, {"() . a", 3}, {"(#;a . b)", 5}, // behind nothing in a list
		{"#(.)", 2}, {"#(a . b)", 4}, {"(a #(b . c))", 7}, {"#(a . 1)", 4}, // in a vector
		{"(a .)", 4}, {"(a . )", 5}, {"(a . #;b)", 8}, {"(a . (b .))", 9}, // ahead of nothing
		{"(a . b c)", 7}, {"(a . b (c))", 7}, {"(a . b #(c))", 7}, {"(a . b 'c)", 7}, {"(a . b \"c\")", 7}, {"(a . b #;c d)", 11}, {"(a . (b) c)", 9}, {"(a . 'b c)", 8}, // ahead of two
		{"(a . b . c)", 7}, {"(a . . b)", 5}, {"(a . b .)", 7}, {"(a . #;b . c)", 9}, {"(a . b #;c . d)", 11}, // behind another one
		{"')", 1}, {"(')", 2}, {"(a ,@)", 5}, {"#(#')", 4}, {"' '' )", 5}, {"'.", 1}, {"('. a)", 2}, {"(a '. b)", 4}, {"(a . ')", 6}, {"(a . '. b)", 6}, {"('#;a)", 5}, {"' #;a )", 6}, // an Abbrev ahead of nothing
		{"#;)", 2}, {"(#;)", 3}, {"(a #;)", 5}, {"#(#;)", 4}, {"#;.", 2}, {"(a #;. b)", 5}, {"(a #; . b)", 6}, {"(a . b #;)", 9}, {"(a . b #;. c)", 9}, {"#;#;a)", 5}, {"(#;#;a)", 6}, {"#;')", 3}, // a Skip ahead of nothing
		{"(", 1}, {"#(", 2}, {"(a", 2}, {"((a)", 4}, {"(a .", 4}, {"(a . b", 6}, {"(\u00E4", 2}, {"( \u20AC ; c", 7}, {"(a\n", 3}, {"#(()", 4}, // without an end
		{"'", 1}, {"a '", 3}, {",@ ", 3}, {"''", 2}, {"'#;a", 4}, {"'; a", 4}, {"('", 2}, {"\u00E4 #,@ ; \u00E4\n", 10}, // an Abbrev at the end
		{"#;", 2}, {"a #;", 4}, {"#;#;a", 5}, {"#;'", 3}, {"#;(a", 4}, {"(#;a", 4}, {"(a #;", 5}, // a Skip at the end
		{") )", 0}, {". )", 0}, {"(a . b c", 7}, {"(()))(", 4}, {"(. ) )", 1}, // the first one counts
	} {
		fails(t, c.text, api.MaxDepth, c.at, api.ErrRead)
		fails(t, "a () 'b #;c\n"+c.text, api.MaxDepth, c.at+12, api.ErrRead)
		fails(t, "\u00E4 "+c.text, api.MaxDepth, c.at+2, api.ErrRead)
	}
}

func TestDeep(t *testing.T) {
	for _, c := range []struct {
		text  string
		depth int // that is just enough
		at    int // where it is too deep for one less
	}{
		{"(a)", 2, 1}, {"(())", 2, 1}, {"() (a)", 2, 4}, {"(a (b))", 3, 4}, {"((a) b)", 3, 2}, {"(\"\u00E4\" (1))", 3, 6}, {"(() (()))", 3, 5},
		{"#(a)", 2, 2}, {"#(#())", 2, 2}, {"(#(a))", 3, 3}, {"#((a))", 3, 3}, {"#(() (a))", 3, 6},
		{"'a", 2, 0}, {"a 'b", 2, 2}, {"''a", 3, 1}, {"'(a)", 3, 2}, {"('a)", 3, 1}, {"('())", 3, 1}, {"#(#,@a)", 3, 2}, {"'#(a)", 3, 3}, {"'()", 2, 0}, {"`(a ,b)", 4, 4}, {"'' a", 3, 1},
		{"#;(a)", 2, 3}, {"#;'a", 2, 2}, {"(#;a)", 2, 3}, {"(#;(a))", 3, 4}, {"'#;(a) b", 3, 4}, {"'#;'a b", 3, 3}, {"#;#;'a b", 2, 4}, {"(a . b #;(c))", 3, 10},
		{"(a . b)", 2, 1}, {"(a . (b))", 3, 6}, {"(a . (b . (c)))", 4, 11}, {"(a . ())", 2, 1}, {"(() . (a))", 3, 7}, {"(a . 'b)", 3, 5},
	} {
		if _, at, e := read.Read([]byte(c.text), c.depth); e != api.OK {
			t.Errorf("%q, depth %d: %d at %d", c.text, c.depth, e, at)
		}
		for depth := 1; depth < c.depth; depth++ {
			_, at, e := read.Read([]byte(c.text), depth)
			if e != api.ErrDeep || at > c.at || depth == c.depth-1 && at != c.at {
				t.Errorf("%q, depth %d: %d at %d, not at %d", c.text, depth, e, at, c.at)
			}
		}
	}
	for _, depth := range []int{1, 2, 3, 63, 64} {
		open := strings.Repeat("(", depth)
		want := list(depth - 1)
		for at := depth - 2; at >= 0; at-- {
			want = list(at, want)
		}
		reads(t, open+strings.Repeat(")", depth), depth, want)
		fails(t, open+"("+strings.Repeat(")", depth+1), depth, depth, api.ErrDeep)
		fails(t, open+"a", depth, depth, api.ErrDeep)
		fails(t, strings.Repeat("'", depth)+"a", depth, depth-1, api.ErrDeep)
		fails(t, strings.Repeat("(", 60000), depth, depth, api.ErrDeep)
		fails(t, strings.Repeat("#(", 30000), depth, 2*depth, api.ErrDeep)
		fails(t, strings.Repeat("'", 60000), depth, depth-1, api.ErrDeep)
	}
	reads(t, "a 1 \"b\" #\\c #t ()", 1, sym("a", 0), whole(1, 2), str("b", 4), chr("c", 8), leaf(api.True, "", 12), list(15))
}

// Each datum that begins counts: those that are skipped, or joined, and the symbols of Abbrevs, too.
func TestMany(t *testing.T) {
	for _, c := range []struct {
		text  string
		count int
	}{
		{"a ", 1}, {"()", 1}, {"(a)", 2}, {"(a b (c))", 5}, {"#()", 1}, {"#(a)", 2}, {"\"a\"", 1}, {"'a ", 3}, {"''a ", 5}, {"#,@()", 3}, {"'(a)", 4},
		{"#;a ", 1}, {"#;(a b)", 3}, {"#;'a ", 3}, {"(#;a)", 2}, {"#;#;a b ", 2}, {"(a . b)", 3}, {"(a . (b))", 4}, {"(a . ())", 3}, {"(a . (b . (c)))", 6}, {"(a . 'b)", 5},
	} {
		n := api.MaxNodes / c.count
		left := api.MaxNodes - n*c.count
		text := strings.Repeat("b ", left) + strings.Repeat(c.text, n)
		if _, at, e := read.Read([]byte(text), api.MaxDepth); e != api.OK {
			t.Errorf("%q, %d times, and %d more: %d at %d", c.text, n, left, e, at)
		}
		fails(t, text+"b", api.MaxDepth, len(text), api.ErrLarge)
		fails(t, text+" \"\u00E4\"", api.MaxDepth, len(text)+1, api.ErrLarge)
		fails(t, text+"#(", api.MaxDepth, len(text), api.ErrLarge)
		fails(t, text+"#;b", api.MaxDepth, len(text)+2, api.ErrLarge)
		fails(t, text+"'", api.MaxDepth, len(text), api.ErrLarge)
		fails(t, text+")", api.MaxDepth, len(text), api.ErrRead)
		fails(t, text+"#;", api.MaxDepth, len(text)+2, api.ErrRead)
		fails(t, text+"#;)", api.MaxDepth, len(text)+2, api.ErrRead)
	}
	most := strings.Repeat("a ", api.MaxNodes-1)
	end := len(most)
	fails(t, most+"'a", api.MaxDepth, end, api.ErrLarge)            // its symbol is one too many
	fails(t, most[2:]+"'a", api.MaxDepth, end-1, api.ErrLarge)      // what stands behind it
	fails(t, "("+most+"a)", api.MaxDepth, end+1, api.ErrLarge)      // the list counts
	fails(t, "(a . ("+most+"))", api.MaxDepth, end+2, api.ErrLarge) // also one that is joined
	fails(t, most+"a ) b", api.MaxDepth, end+2, api.ErrRead)        // the first word counts
	fails(t, most+"a b )", api.MaxDepth, end+2, api.ErrLarge)
	got, _, e := read.Read([]byte("("+most+")"), 2)
	if e != api.OK || len(got) != 1 || len(got[0].List) != api.MaxNodes-1 || !read.Sound(got[0]) {
		t.Errorf("the list of most: %d", e)
	}
}

// Where several errors apply to one word, the one that is named first is answered.
func TestWhichError(t *testing.T) {
	fails(t, "(a . b (c", 2, 7, api.ErrRead)
	fails(t, "(a . b 'c", 2, 7, api.ErrRead)
	full := strings.Repeat("a ", api.MaxNodes-3) + "(a . b" // all that may be
	n := len(full)
	fails(t, full+" c)", 2, n+1, api.ErrRead)
	fails(t, full+" 'c)", 2, n+1, api.ErrRead)
	fails(t, full+" #;c)", 2, n+3, api.ErrLarge)
	fails(t, full+" #;'c)", 2, n+3, api.ErrDeep)
	full = strings.Repeat("a ", api.MaxNodes-1) + "("
	n = len(full)
	fails(t, full+"a", 1, n, api.ErrDeep)
	fails(t, full+"a", 2, n, api.ErrLarge)
	fails(t, full+"(", 1, n, api.ErrDeep)
	fails(t, full+"'a", 1, n, api.ErrDeep)
	fails(t, full+"'a", 2, n, api.ErrDeep)
	fails(t, full+"'a", 3, n, api.ErrLarge)
	fails(t, strings.Repeat("a ", api.MaxNodes)+"'a", 1, 2*api.MaxNodes, api.ErrDeep)
}

// P4.2

func TestLeaves(t *testing.T) {
	reads(t, "", 1)
	reads(t, " \n; a\n", 1)
	reads(t, "a \u00E4 ... #true #f -12 +7 1000000007", 1, sym("a", 0), sym("\u00E4", 2), sym("...", 4), leaf(api.True, "", 8), leaf(api.False, "", 14), whole(-12, 17), whole(7, 21), whole(1000000007, 24))
	reads(t, "\"\" \"a\\n\u20AC\" #\\a #\\space #\\x41", 1, str("", 0), str("a\n\u20AC", 3), chr("a", 10), chr(" ", 14), chr("A", 22))
}

func TestLists(t *testing.T) {
	reads(t, "() (a) (a b)(c)", 2, list(0), list(3, sym("a", 4)), list(7, sym("a", 8), sym("b", 10)), list(12, sym("c", 13)))
	reads(t, "( () ((a)) )", 4, list(0, list(2), list(5, list(6, sym("a", 7)))))
	reads(t, "#() #(a #(b) (c))", 3, vector(0), vector(4, sym("a", 6), vector(8, sym("b", 10)), list(13, sym("c", 14))))
	reads(t, "\"\u00E4\u20AC\" (\u00E4)", 2, str("\u00E4\u20AC", 0), list(5, sym("\u00E4", 6)))
}

func TestDots(t *testing.T) {
	reads(t, "(a . b)", 2, dotted(0, sym("a", 1), sym("b", 5)))
	reads(t, "(a b . \"c\")", 2, dotted(0, sym("a", 1), sym("b", 3), str("c", 7)))
	reads(t, "(a . #(b))", 3, dotted(0, sym("a", 1), vector(5, sym("b", 7))))
	reads(t, "(a . #())", 2, dotted(0, sym("a", 1), vector(5)))
	reads(t, "((a . b) . c)", 3, dotted(0, dotted(1, sym("a", 2), sym("b", 6)), sym("c", 11)))
	reads(t, " (a . (b c))", 3, list(1, sym("a", 2), sym("b", 7), sym("c", 9)))
	reads(t, "(a . ())", 2, list(0, sym("a", 1)))
	reads(t, "(a b . (c . d))", 3, dotted(0, sym("a", 1), sym("b", 3), sym("c", 8), sym("d", 12)))
	reads(t, "(a . (b . (c . ())))", 4, list(0, sym("a", 1), sym("b", 6), sym("c", 11)))
	reads(t, "(a . (b . (c . d)))", 4, dotted(0, sym("a", 1), sym("b", 6), sym("c", 11), sym("d", 15)))
	reads(t, "(a . (b . #(c)))", 4, dotted(0, sym("a", 1), sym("b", 6), vector(10, sym("c", 12))))
	reads(t, "(() . (()))", 3, list(0, list(1), list(7)))
	reads(t, "(a . 'b)", 3, list(0, sym("a", 1), sym("quote", 5), sym("b", 6)))
	reads(t, "('a . b)", 3, dotted(0, abbrev("quote", 1, sym("a", 2)), sym("b", 6)))
	reads(t, "(a . 'b) (a .b)", 3, list(0, sym("a", 1), sym("quote", 5), sym("b", 6)), list(9, sym("a", 10), sym(".b", 12)))
	reads(t, "'(a . b)", 3, abbrev("quote", 0, dotted(1, sym("a", 2), sym("b", 6))))
}

func TestAbbrevs(t *testing.T) {
	for text, name := range map[string]string{
		"'": "quote", "`": "quasiquote", ",": "unquote", ",@": "unquote-splicing", "#'": "syntax", "#`": "quasisyntax", "#,": "unsyntax", "#,@": "unsyntax-splicing",
	} {
		n := len(text)
		reads(t, text+"a", 2, abbrev(name, 0, sym("a", n)))
		reads(t, "\u00E4 "+text+" \n(b)", 3, sym("\u00E4", 0), abbrev(name, 2, list(n+4, sym("b", n+5))))
		reads(t, "("+text+"a "+text+"b)", 3, list(0, abbrev(name, 1, sym("a", n+1)), abbrev(name, n+3, sym("b", 2*n+3))))
		reads(t, text+text+"a", 3, abbrev(name, 0, abbrev(name, n, sym("a", 2*n))))
		reads(t, "#("+text+"#())", 3, vector(0, abbrev(name, 2, vector(n+2))))
	}
	reads(t, "'`,a b", 4, abbrev("quote", 0, abbrev("quasiquote", 1, abbrev("unquote", 2, sym("a", 3)))), sym("b", 5))
}

func TestSkips(t *testing.T) {
	reads(t, "#;a", 1)
	reads(t, "#;a b", 1, sym("b", 4))
	reads(t, "a #;b", 1, sym("a", 0))
	reads(t, "#;#;a b", 1)
	reads(t, "#;#;a b c", 1, sym("c", 8))
	reads(t, "#;a #;b c", 1, sym("c", 8))
	reads(t, "#;(a (b) . c) d", 3, sym("d", 14))
	reads(t, "#;'a b", 2, sym("b", 5))
	reads(t, "#;'#;a b c", 2, sym("c", 9))
	reads(t, "'#;a b", 2, abbrev("quote", 0, sym("b", 5)))
	reads(t, "'#;#;a b c", 2, abbrev("quote", 0, sym("c", 9)))
	reads(t, "''#;a b", 3, abbrev("quote", 0, abbrev("quote", 1, sym("b", 6))))
	reads(t, "(#;a)", 2, list(0))
	reads(t, "#(#;a b #;c)", 2, vector(0, sym("b", 6)))
	reads(t, "(a #;b . #;c d #;e)", 2, dotted(0, sym("a", 1), sym("d", 13)))
	reads(t, "(a . #;b ())", 2, list(0, sym("a", 1)))
	reads(t, "(a . (b) #;(c))", 3, list(0, sym("a", 1), sym("b", 6)))
	reads(t, "(a . b #;#;c d)", 2, dotted(0, sym("a", 1), sym("b", 5)))
	reads(t, "(a . b #;'c)", 3, dotted(0, sym("a", 1), sym("b", 5)))
	reads(t, strings.Repeat("#;", 8000)+strings.Repeat("a ", 8001), 1, sym("a", 32000))
	fails(t, strings.Repeat("#;", 30000), 1, 60000, api.ErrRead)
	fails(t, strings.Repeat("#;", 30000)+strings.Repeat("a ", 2000), 1, 64000, api.ErrRead)
}

// What the promises say of a text of words, as a grammar: one method for each thing that may stand in a text.

// fault is what the grammar gives up by.
type fault struct {
	at int
	e  api.Errno
}

// grammar reads words.
type grammar struct {
	words        []string
	place        []int
	end          int
	i            int
	depth, count int
}

// next is the next word, and its place; at the end it gives up, since there a datum or a Close is wanted.
func (g *grammar) next() (string, int) {
	if g.i == len(g.words) {
		panic(fault{g.end, api.ErrRead})
	}
	return g.words[g.i], g.place[g.i]
}

// comes tells if that word comes next, and passes it.
func (g *grammar) comes(w string) bool {
	if g.i < len(g.words) && g.words[g.i] == w {
		g.i++
		return true
	}
	return false
}

// skips passes what is skipped ahead of the next word.
func (g *grammar) skips(deep int) {
	for g.comes("#;") {
		g.datum(deep)
	}
}

// starts counts datums that begin at the word that was passed, the deepest of which is deep deep.
func (g *grammar) starts(n, deep int) {
	g.count += n
	if deep > g.depth {
		panic(fault{g.place[g.i-1], api.ErrDeep})
	}
	if g.count > api.MaxNodes {
		panic(fault{g.place[g.i-1], api.ErrLarge})
	}
}

// datum reads one, behind what is skipped ahead of it.
func (g *grammar) datum(deep int) api.Datum {
	g.skips(deep)
	w, at := g.next()
	g.i++
	switch w {
	case ")", ".":
		panic(fault{at, api.ErrRead})
	case "'":
		g.starts(2, deep+1)
		return abbrev("quote", at, g.datum(deep+1))
	case "(":
		g.starts(1, deep)
		return g.list(at, deep+1)
	case "#(":
		g.starts(1, deep)
		d := vector(at)
		for g.skips(deep + 1); !g.comes(")"); g.skips(deep + 1) {
			d.List = append(d.List, g.datum(deep+1))
		}
		return d
	}
	g.starts(1, deep)
	return sym(w, at)
}

// list reads what stands behind an Open, up to its Close.
func (g *grammar) list(at, deep int) api.Datum {
	d := list(at)
	for {
		g.skips(deep)
		if g.comes(")") {
			return d
		}
		if len(d.List) > 0 && g.comes(".") {
			break
		}
		d.List = append(d.List, g.datum(deep))
	}
	last := g.datum(deep)
	g.skips(deep)
	if _, at := g.next(); !g.comes(")") {
		panic(fault{at, api.ErrRead})
	}
	switch last.Kind {
	case api.List, api.Dotted:
		d.Kind = last.Kind
		d.List = append(d.List, last.List...)
	default:
		d.Kind = api.Dotted
		d.List = append(d.List, last)
	}
	return d
}

// all reads the whole text.
func (g *grammar) all() (in []api.Datum, f fault) {
	defer func() {
		switch thrown := recover().(type) {
		case nil:
		case fault:
			in, f = nil, thrown
		default:
			panic(thrown)
		}
	}()
	for g.skips(1); g.i < len(g.words); g.skips(1) {
		in = append(in, g.datum(1))
	}
	return in, fault{}
}

// held tells if Read answers of a text of words what the grammar does, and answers if no word of it is at fault.
func held(t *testing.T, words []string, depth int) bool {
	t.Helper()
	g := grammar{words: words, depth: depth}
	var text strings.Builder
	for _, w := range words {
		g.place = append(g.place, text.Len())
		text.WriteString(w + " ")
	}
	g.end = text.Len()
	want, f := g.all()
	got, at, e := read.Read([]byte(text.String()), depth)
	if e != f.e || at != f.at || !slices.EqualFunc(got, want, alike) {
		t.Fatalf("Read of %.80q, depth %d: %s, %d, %d, not %s, %v", text.String(), depth, brief(got), at, e, brief(want), f)
	}
	for _, d := range got {
		if !read.Sound(d) {
			t.Fatalf("what Read of %.80q answers is not sound: %s", text.String(), brief(d))
		}
	}
	return e == api.OK || at == g.end
}

// All texts of up to seven words in which none but the last one is at fault; and of up to two behind as many datums as may be, or one or two less.
func TestAllShort(t *testing.T) {
	var grow func(words []string, more int, depths ...int)
	grow = func(words []string, more int, depths ...int) {
		good := false
		for _, depth := range depths {
			good = held(t, words, depth) || good
		}
		if !good || more == 0 {
			return
		}
		for _, w := range []string{"(", ")", "#(", ".", "'", "#;", "a"} {
			grow(append(slices.Clone(words), w), more-1, depths...)
		}
	}
	grow(nil, 7, 1, 2, 3, api.MaxDepth)
	for n := api.MaxNodes - 2; n <= api.MaxNodes; n++ {
		grow(slices.Repeat([]string{"a"}, n), 2, 2)
	}
}

// Longer texts, always the same ones, of words of which most can stand where they do.
func TestAllLonger(t *testing.T) {
	words := []string{"(", "(", "(", ")", ")", ")", "#(", ".", ".", "'", "#;", "a", "a", "b"}
	seed := uint64(1)
	for i := range 200000 {
		var text []string
		for range 8 + i%9 {
			seed = seed*6364136223846793005 + 1442695040888963407
			text = append(text, words[(seed>>33)%uint64(len(words))])
		}
		held(t, text, 1+i%5)
	}
}

// The words: what is sound

// sound tells if Sound answers that d is what it is said to be.
func sound(t *testing.T, want bool, d api.Datum) {
	t.Helper()
	if read.Sound(d) != want {
		t.Errorf("Sound(%s): %v", brief(d), !want)
	}
}

// leaves are sound leaves of all kinds.
func leaves() []api.Datum {
	return []api.Datum{
		sym("a", 0), str("", 0), str("a", 0), chr("a", 0), whole(0, 0), whole(-7, 0), whole(math.MaxInt, 0),
		leaf(api.True, "", 0), leaf(api.False, "", 0), leaf(api.Void, "", 0), leaf(api.Other, "", 0), leaf(api.Other, "box", 0),
	}
}

func TestSoundLeaves(t *testing.T) {
	for _, d := range leaves() {
		sound(t, true, d)
		for _, at := range []int{1, -1, math.MinInt, math.MaxInt} {
			d.At = at
			sound(t, true, d)
		}
	}
	for _, text := range []string{"a", "...", "+", "-", "->", "..", "%if", "x41", "a#", "\u00E4", "\U0001F600", "[a]", "\x00", strings.Repeat("a", api.MaxName), strings.Repeat("\u00E4", api.MaxName/2)} {
		sound(t, true, sym(text, 0))
	}
	for _, text := range []string{"", ".", "#t", "#f", "#true", "#false", "1", "-1", "+0", "#", "#a", "1a", "+1a", "a b", " a", "a\n", "(", "a)", "a;", "'a", "a'", ",", "a`", "\"a\"", "\xFF", "a\x80", "\xC0\x80", "a\xED\xA0\x80", strings.Repeat("a", api.MaxName+1), strings.Repeat("\u00E4", api.MaxName/2) + "a", strings.Repeat("1", 10000), strings.Repeat("a", 1<<20)} {
		sound(t, false, sym(text, 0))
	}
	for _, text := range []string{"a b", "\x00\n\\\"", "\u00E4\U0010FFFF", "#t", "12", strings.Repeat("a", api.MaxString), strings.Repeat("\U0001F600", api.MaxString), strings.Repeat("\xEF\xBF\xBD", api.MaxString)} {
		sound(t, true, str(text, 0))
	}
	for _, text := range []string{"\xFF", "a\x80", "\xC0\x80", "\xE2\x82", "\xED\xA0\x80", strings.Repeat("a", api.MaxString+1), strings.Repeat("\U0001F600", api.MaxString+1), strings.Repeat("a", api.MaxString-1) + "\xC3", strings.Repeat("a", api.MaxText+1), strings.Repeat("\xFF", 1<<20)} {
		sound(t, false, str(text, 0))
	}
	for _, text := range []string{"a", " ", "\n", "\x00", "\x7F", "(", "\u00E4", "\uFFFD", "\U0010FFFF"} {
		sound(t, true, chr(text, 0))
	}
	for _, text := range []string{"", "ab", "space", "x41", "\u00E4\u00E4", "\xFF", "\x80", "a\xFF", "\xC3", "\xF4\x90\x80\x80", strings.Repeat("a", api.MaxText+1)} {
		sound(t, false, chr(text, 0))
	}
	for _, text := range []string{"procedure", " ", "(", "\xFF", "a\nb", strings.Repeat("a", api.MaxText+1)} {
		sound(t, true, leaf(api.Other, text, 0))
	}
}

func TestSoundIntegers(t *testing.T) {
	integer := func(neg bool, limbs ...uint32) api.Datum {
		return api.Datum{Kind: api.Integer, Num: api.Int{Neg: neg, Limbs: limbs}}
	}
	sound(t, true, integer(false))
	sound(t, true, api.Datum{Kind: api.Integer, Num: api.Int{Limbs: []uint32{}}})
	sound(t, true, integer(true, 1))
	sound(t, true, integer(false, 0, 1))
	sound(t, true, integer(true, slices.Repeat([]uint32{api.Base - 1}, api.MaxLimbs)...))
	sound(t, false, integer(true))
	sound(t, false, integer(false, 0))
	sound(t, false, integer(false, 1, 0))
	sound(t, false, integer(false, api.Base))
	sound(t, false, integer(false, api.Base, 1))
	sound(t, false, integer(false, slices.Repeat([]uint32{1}, api.MaxLimbs+1)...))
}

// Each kind has nothing in the fields that it does not need.
func TestSoundFields(t *testing.T) {
	groups := []api.Datum{list(0), vector(0), list(0, sym("a", 0)), vector(0, sym("a", 0)), dotted(0, sym("a", 0), sym("b", 0))}
	for _, d := range append(leaves(), groups...) {
		if d.Kind != api.Integer {
			for _, x := range []api.Int{num.Of(1), num.Of(-1), {Neg: true}, {Limbs: []uint32{0}}, {Limbs: []uint32{api.Base}}} {
				other := d
				other.Num = x
				sound(t, false, other)
				sound(t, false, list(0, sym("a", 0), other))
			}
			d.Num.Limbs = []uint32{}
			sound(t, true, d)
		}
		if d.Kind > api.Vector {
			other := d
			other.List = []api.Datum{sym("a", 0)}
			sound(t, false, other)
			other.List = []api.Datum{{}}
			sound(t, false, other)
			sound(t, false, vector(0, other))
			other.List = []api.Datum{}
			sound(t, true, other)
		}
		if d.Text == "" && d.Kind != api.String && d.Kind != api.Other {
			other := d
			other.Text = "a"
			sound(t, false, other)
			sound(t, false, dotted(0, sym("a", 0), sym("a", 0), other))
		}
	}
	for _, kind := range []int{0, -1, 12, 13, math.MinInt, math.MaxInt} {
		sound(t, false, api.Datum{Kind: kind})
		sound(t, false, leaf(kind, "a", 0))
		sound(t, false, group(kind, 0, sym("a", 0)))
		sound(t, false, list(0, api.Datum{Kind: kind}))
	}
}

func TestSoundGroups(t *testing.T) {
	a := sym("a", 0)
	sound(t, true, list(0))
	sound(t, true, vector(0))
	sound(t, false, dotted(0))
	sound(t, true, list(0, a))
	sound(t, false, dotted(0, a))
	sound(t, true, dotted(0, a, a))
	sound(t, true, dotted(0, a, a, a))
	sound(t, true, dotted(0, list(0), vector(0)))
	sound(t, true, dotted(0, dotted(0, a, a), a))
	sound(t, false, dotted(0, a, list(0)))
	sound(t, false, dotted(0, a, list(0, a)))
	sound(t, false, dotted(0, a, dotted(0, a, a)))
	sound(t, true, list(0, a, dotted(0, a, a)))
	sound(t, true, vector(0, a, list(0)))
	bad := sym("1", 0)
	for _, kind := range []int{api.List, api.Dotted, api.Vector} {
		for at := range 3 {
			in := []api.Datum{a, a, a}
			in[at] = bad
			sound(t, false, group(kind, 0, in...))
			sound(t, false, vector(0, group(kind, 0, in...)))
		}
		for _, d := range leaves() {
			sound(t, true, group(kind, 0, d, d))
		}
	}
}

func TestSoundLimits(t *testing.T) {
	for _, kind := range []int{api.List, api.Dotted, api.Vector} {
		for _, inner := range []api.Datum{sym("a", 0), list(0), vector(0)} {
			d := inner
			for deep := 2; deep <= api.MaxDepth+2; deep++ {
				d = group(kind, 0, d, sym("a", 0))
				sound(t, deep <= api.MaxDepth, d)
			}
		}
		most := slices.Repeat([]api.Datum{whole(7, 0)}, api.MaxNodes)
		sound(t, true, group(kind, 0, most[1:]...))
		sound(t, false, group(kind, 0, most...))
		sound(t, true, list(0, group(kind, 0, most[5:]...), group(kind, 0, most[:2]...)))
		sound(t, false, list(0, group(kind, 0, most[4:]...), group(kind, 0, most[:2]...)))
	}
	sound(t, false, list(0, make([]api.Datum, 1<<20)...))
	// Lists that stand in one another many times, and one without end.
	d := list(0)
	for range 62 {
		d = list(0, d, d)
	}
	sound(t, false, d)
	d = list(0, sym("a", 0), sym("a", 0))
	d.List[0], d.List[1] = d, d
	sound(t, false, d)
}

// P4.3

// same tells if Same answers of a and b, and of b and a, what is wanted, and that each is the same as itself.
func same(t *testing.T, want bool, a, b api.Datum) {
	t.Helper()
	if read.Same(a, b) != want || read.Same(b, a) != want || !read.Same(a, a) || !read.Same(b, copied(b)) {
		t.Errorf("Same of %s and %s: %v", brief(a), brief(b), !want)
	}
}

// various are datums of which no two are the same, sound and not.
func various() []api.Datum {
	a, b := sym("a", 0), sym("b", 0)
	return []api.Datum{
		{}, {Kind: -1}, {Kind: 12}, {Kind: math.MaxInt},
		a, b, sym("", 0), sym("A", 0), sym("a ", 0), str("a", 0), str("", 0), str("b", 0), str("\xFF", 0), str("\xFE", 0), chr("a", 0), chr("", 0),
		leaf(api.True, "", 0), leaf(api.False, "", 0), leaf(api.Void, "", 0), leaf(api.Other, "", 0), leaf(api.Other, "a", 0), leaf(api.True, "a", 0),
		whole(0, 0), whole(1, 0), whole(-1, 0), whole(2, 0), whole(api.Base, 0), whole(api.Base+1, 0), whole(-api.Base, 0),
		{Kind: api.Integer, Num: api.Int{Neg: true}}, {Kind: api.Integer, Num: api.Int{Limbs: []uint32{0}}}, {Kind: api.Integer, Num: api.Int{Limbs: []uint32{1, 0}}}, {Kind: api.Integer, Text: "a"},
		{Kind: api.Symbol, Text: "a", Num: num.Of(1)}, {Kind: api.Symbol, Text: "a", Num: api.Int{Neg: true}}, {Kind: api.Symbol, Text: "a", List: []api.Datum{{}}}, {Kind: api.List, Text: "a"}, {Kind: api.List, Num: num.Of(1)},
		list(0), list(0, a), list(0, b), list(0, a, a), list(0, a, b), list(0, b, a), list(0, a, a, a), list(0, list(0)), list(0, list(0, a)), list(0, list(0, b)), list(0, list(0), a), list(0, a, list(0)), list(0, vector(0)), list(0, api.Datum{}),
		dotted(0), dotted(0, a), dotted(0, a, b), dotted(0, a, a), dotted(0, b, a), dotted(0, a, list(0)), dotted(0, list(0), a),
		vector(0), vector(0, a), vector(0, b), vector(0, a, b), vector(0, list(0)), vector(0, vector(0)), vector(0, list(0, a), list(0, b)), vector(0, list(0, a), list(0, a)),
	}
}

func TestSame(t *testing.T) {
	all := various()
	for i, a := range all {
		for j, b := range all {
			same(t, i == j, a, b)
			same(t, i == j, list(1, sym("x", 2), vector(3, a)), list(4, sym("x", 5), vector(6, b)))
			same(t, i == j, dotted(7, a, sym("x", 8)), dotted(-9, b, sym("x", 8)))
		}
	}
}

func TestSamePlaces(t *testing.T) {
	for i, d := range various() {
		other := copied(d)
		other.At = i + 1
		for j := range other.List {
			other.List[j].At = -j - 1
			for k := range other.List[j].List {
				other.List[j].List[k].At = math.MaxInt
			}
		}
		same(t, true, d, other)
	}
	same(t, true, list(0), api.Datum{Kind: api.List, List: []api.Datum{}})
	same(t, true, whole(0, 0), api.Datum{Kind: api.Integer, Num: api.Int{Limbs: []uint32{}}})
	for _, texts := range [][2]string{{"(a . (b c))", "(a b c)"}, {"'a", " ( quote\na )"}, {"(a . (b . c))", "(a b #;x . c)"}, {"007", "+7"}, {"#\\x41", "#\\A"}, {"#true", "#t"}, {"\"\\x41;\"", "\"A\""}} {
		a, _, _ := read.Read([]byte(texts[0]), api.MaxDepth)
		b, _, _ := read.Read([]byte(texts[1]), api.MaxDepth)
		if len(a) != 1 || len(b) != 1 {
			t.Fatalf("%q: %v, %v", texts, a, b)
		}
		same(t, true, a[0], b[0])
	}
}

// Datums that are no longer sound, but within the bound of all promises.
func TestSameGreat(t *testing.T) {
	deep := func(inner api.Datum) api.Datum {
		for at := range 1 << 15 {
			inner = list(at, inner)
		}
		return inner
	}
	same(t, true, deep(sym("a", 0)), deep(sym("a", 1)))
	same(t, false, deep(sym("a", 0)), deep(sym("b", 0)))
	wide := slices.Repeat([]api.Datum{sym("a", 0)}, 1<<18)
	other := slices.Clone(wide)
	same(t, true, list(0, wide...), list(1, other...))
	other[1<<18-1].Text = "b"
	same(t, false, list(0, wide...), list(0, other...))
	same(t, false, list(0, wide...), list(0, wide[1:]...))
	sound(t, false, deep(sym("a", 0)))
}

// R4: what is handed in, and its spare room, is not changed, and what is answered is new memory.
func TestMemory(t *testing.T) {
	for _, text := range []string{"", "(a . (b 'c #(1000000007))) \"d\" -7", "(a . b)", "((a) . #(b))", "''(1 . (2 . 3))", "#;a b", "a )", "((a", "\"\u00E4\" \xFF"} {
		all := []byte(text + " spare room ) \"")
		before := slices.Clone(all)
		n := len(text)
		got, _, _ := read.Read(all[:n], api.MaxDepth)
		again, _, _ := read.Read(all[:n], api.MaxDepth)
		want := copied(list(0, again...))
		spoil(got)
		if !slices.Equal(all, before) || !alike(list(0, again...), want) {
			t.Errorf("Read of %q changes what it was given, or answered", text)
		}
		clear(all)
		if !alike(list(0, again...), want) {
			t.Errorf("what Read of %q answered hangs on what it was given", text)
		}
	}
	d := list(0, dotted(1, sym("a", 2), whole(-7, 3)), vector(4))
	d.List = append(d.List, sym("spare", 5))[:2]
	want := copied(list(0, d.List[:3]...))
	read.Sound(d)
	read.Same(d, copied(d))
	if !alike(list(0, d.List[:3]...), want) {
		t.Error("Sound or Same changes what it was given")
	}
}

// spoil writes over all lists of datums, spare room among it.
func spoil(in []api.Datum) {
	for _, d := range in {
		spoil(d.List)
		clear(d.Num.Limbs[:cap(d.Num.Limbs)])
	}
	clear(in[:cap(in)])
}

// No two lists of one answer share memory: what is put behind one changes no other.
func TestApart(t *testing.T) {
	got, _, _ := read.Read([]byte("(a b c . (d e)) ((f) g . (h . i)) '(j) #(k (l m) n) (o . p)"), api.MaxDepth)
	want := copied(list(0, got...))
	var push func(in []api.Datum)
	push = func(in []api.Datum) {
		for _, d := range in {
			push(d.List)
			_ = append(d.List, sym("new", 0))
			_ = append(d.Num.Limbs, 1)
		}
	}
	push(got)
	if !alike(list(0, got...), want) {
		t.Error("lists of one answer share memory")
	}
}

// R5: the same calls have the same answers, whatever was called between.
func TestAgain(t *testing.T) {
	for range 2 {
		reads(t, "(a . b)", 2, dotted(0, sym("a", 1), sym("b", 5)))
		fails(t, "(a . b", 2, 6, api.ErrRead)
		fails(t, "((a", 2, 2, api.ErrDeep)
		fails(t, strings.Repeat("a ", api.MaxNodes+1), 1, 2*api.MaxNodes, api.ErrLarge)
		sound(t, true, list(0))
		sound(t, false, dotted(0))
	}
	if got, at, e := read.Read(nil, 1); len(got) != 0 || at != 0 || e != api.OK {
		t.Errorf("Read of nil: %v, %d, %d", got, at, e)
	}
}
