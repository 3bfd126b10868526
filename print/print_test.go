package print_test

import (
	"fmt"
	"math"
	"slices"
	"strings"
	"testing"
	"unicode/utf8"

	"marginalia/api"
	"marginalia/num"
	"marginalia/print"
	"marginalia/read"
)

// The datums that tests print; where one stands is not asked, and so differs.

func leaf(kind int, text string) api.Datum { return api.Datum{Kind: kind, Text: text, At: len(text)} }
func sym(text string) api.Datum            { return leaf(api.Symbol, text) }
func str(text string) api.Datum            { return leaf(api.String, text) }
func chr(text string) api.Datum            { return leaf(api.Char, text) }
func other(text string) api.Datum          { return leaf(api.Other, text) }
func whole(n int) api.Datum                { return api.Datum{Kind: api.Integer, Num: num.Of(n), At: -1} }
func integer(neg bool, limbs ...uint32) api.Datum {
	return api.Datum{Kind: api.Integer, Num: api.Int{Neg: neg, Limbs: limbs}}
}
func group(kind int, list ...api.Datum) api.Datum {
	return api.Datum{Kind: kind, List: list, At: math.MaxInt}
}
func list(in ...api.Datum) api.Datum   { return group(api.List, in...) }
func dotted(in ...api.Datum) api.Datum { return group(api.Dotted, in...) }
func vector(in ...api.Datum) api.Datum { return group(api.Vector, in...) }

// copied is d with memory of its own.
func copied(d api.Datum) api.Datum {
	d.Num.Limbs = slices.Clone(d.Num.Limbs)
	d.List = slices.Clone(d.List)
	for i := range d.List {
		d.List[i] = copied(d.List[i])
	}
	return d
}

// brief is what tests tell of a text.
func brief(s string) string {
	told := fmt.Sprintf("%+q", s)
	return told[:min(len(told), 200)]
}

// outside is what tests tell of a datum: not what is in what is in it, of which there may be no end.
func outside(d api.Datum) string {
	return fmt.Sprintf("{kind %d, %s, %v, with %d in it}", d.Kind, brief(d.Text), d.Num, len(d.List))
}

// prints holds what Print answers of d against its text.
func prints(t *testing.T, want string, d api.Datum) {
	t.Helper()
	if got, e := print.Print(d); got != want || e != api.OK {
		t.Errorf("Print of %s: %s, %d, not %s", outside(d), brief(got), e, brief(want))
	}
}

// refused tells if Print answers that d is not sound.
func refused(t *testing.T, d api.Datum) {
	t.Helper()
	if got, e := print.Print(d); got != "" || e != api.ErrForm {
		t.Errorf("Print of %s: %s, %d, not error %d", outside(d), brief(got), e, api.ErrForm)
	}
}

// quotes holds what Quoted answers of s against its text.
func quotes(t *testing.T, want, s string) {
	t.Helper()
	if got := print.Quoted(s); got != want {
		t.Errorf("Quoted of %s: %s, not %s", brief(s), brief(got), brief(want))
	}
}

// P5.1

func TestExamples(t *testing.T) {
	prints(t, "(quote a)", list(sym("quote"), sym("a")))
	prints(t, `"\"\n"`, str("\"\n"))
	quotes(t, `"\"\n"`, "\"\n")
}

func TestLeaves(t *testing.T) {
	prints(t, "#t", leaf(api.True, ""))
	prints(t, "#f", leaf(api.False, ""))
	prints(t, "#<void>", leaf(api.Void, ""))
	for _, text := range []string{"a", "A", "...", "+", "-", "->x", "..", ".a", "%if", "a#", "@a", "a.b", "a|b", "[a]", `a\n`, "\u00E4", "\U0001F600", "\x00\x7F", "\u00A0", strings.Repeat("a", api.MaxName), strings.Repeat("\u00E4", api.MaxName/2)} {
		prints(t, text, sym(text))
	}
	for _, text := range []string{"procedure", "box", "", " ", ">", "#<", "(\n\"", "\\", "\x00", "\xFF\x80", "\u00E4", strings.Repeat("a", api.MaxText+1)} {
		prints(t, "#<"+text+">", other(text)) // as it is, whatever it is
	}
}

func TestIntegers(t *testing.T) {
	for _, n := range []int{0, 1, -1, 9, 10, -10, 999999999, 1000000000, 1000000001, -1000000000, math.MaxInt, math.MinInt} {
		prints(t, fmt.Sprint(n), whole(n))
	}
	prints(t, "0", integer(false))
	prints(t, "-1000000000000000000", integer(true, 0, 0, 1))
	nines := strings.Repeat("9", 9*api.MaxLimbs)
	most := slices.Repeat([]uint32{api.Base - 1}, api.MaxLimbs)
	prints(t, nines, integer(false, most...))
	prints(t, "-"+nines, integer(true, most...))
}

func TestChars(t *testing.T) {
	names := map[rune]string{' ': "space", '\n': "newline", '\t': "tab", '\r': "return", 0: "null", 127: "delete", 1: "x1", 7: "x7", 8: "x8", 11: "xb", 12: "xc", 14: "xe", 15: "xf", 16: "x10", 27: "x1b", 31: "x1f"}
	for c, name := range names {
		prints(t, `#\`+name, chr(string(c)))
		prints(t, `(#\`+name+` . #(#\`+name+"))", dotted(chr(string(c)), vector(chr(string(c)))))
	}
	for _, text := range []string{"a", "A", "x", "n", "0", "(", ")", "\"", "\\", ";", "'", "#", ".", "~", "!", "\u0080", "\u00A0", "\u00E4", "\u2028", "\uFEFF", "\uFFFD", "\U0001F600", "\U0010FFFF"} {
		prints(t, `#\`+text, chr(text))
	}
}

func TestStrings(t *testing.T) {
	prints(t, `""`, str(""))
	prints(t, `"a b"`, str("a b"))
	prints(t, `("a\\" #("\"") . "\t\r\n\x0;\x7f;")`, dotted(str(`a\`), vector(str(`"`)), str("\t\r\n\x00\x7F")))
	prints(t, `"`+strings.Repeat(`\x1f;`, api.MaxString)+`"`, str(strings.Repeat("\x1F", api.MaxString)))
	prints(t, `"`+strings.Repeat("\U0001F600", api.MaxString)+`"`, str(strings.Repeat("\U0001F600", api.MaxString)))
}

func TestLists(t *testing.T) {
	a, b, c := sym("a"), sym("b"), sym("c")
	prints(t, "()", list())
	prints(t, "()", api.Datum{Kind: api.List, List: []api.Datum{}})
	prints(t, "(a)", list(a))
	prints(t, "(a b c)", list(a, b, c))
	prints(t, "((a) () (b (c)))", list(list(a), list(), list(b, list(c))))
	prints(t, "(a . b)", dotted(a, b))
	prints(t, "(a b . c)", dotted(a, b, c))
	prints(t, "((a . b) . c)", dotted(dotted(a, b), c))
	prints(t, "(() . #())", dotted(list(), vector()))
	prints(t, "((a . b) (b . c))", list(dotted(a, b), dotted(b, c)))
	prints(t, "#()", vector())
	prints(t, "#(a)", vector(a))
	prints(t, "#(a b c)", vector(a, b, c))
	prints(t, "#(#(a) (b . c) ())", vector(vector(a), dotted(b, c), list()))
	prints(t, "(#t #f #<void> #<box> 1 -2 \"\" #\\space ...)", list(leaf(api.True, ""), leaf(api.False, ""), leaf(api.Void, ""), other("box"), whole(1), whole(-2), str(""), chr(" "), sym("...")))
	for _, name := range []string{"quote", "quasiquote", "unquote", "unquote-splicing", "syntax", "quasisyntax", "unsyntax", "unsyntax-splicing"} { // none is abbreviated
		prints(t, "("+name+" a)", list(sym(name), a))
		prints(t, "("+name+" . a)", dotted(sym(name), a))
		prints(t, "#("+name+" ("+name+" a))", vector(sym(name), list(sym(name), a)))
	}
}

// Print's own limits are a datum's: no text is too long.
func TestLimits(t *testing.T) {
	for _, c := range []struct {
		kind        int
		open, close string
	}{{api.List, "(", ")"}, {api.Vector, "#(", ")"}, {api.Dotted, "(", " . a)"}} {
		d := sym("a")
		for deep := 2; deep <= api.MaxDepth+1; deep++ {
			d = group(c.kind, d)
			if c.kind == api.Dotted {
				d.List = append(d.List, sym("a"))
			}
			if deep > api.MaxDepth {
				refused(t, d)
				continue
			}
			prints(t, strings.Repeat(c.open, deep-1)+"a"+strings.Repeat(c.close, deep-1), d)
		}
	}
	name := strings.Repeat("a", api.MaxName)
	most := slices.Repeat([]api.Datum{sym(name)}, api.MaxNodes)
	prints(t, "("+strings.Repeat(name+" ", api.MaxNodes-2)+name+")", list(most[1:]...))
	prints(t, "#("+strings.Repeat(name+" ", api.MaxNodes-2)+name+")", vector(most[1:]...))
	prints(t, "("+strings.Repeat(name+" ", api.MaxNodes-2)+". "+name+")", dotted(most[1:]...))
	refused(t, list(most...))
	refused(t, vector(most...))
	refused(t, dotted(most...))
	refused(t, list(make([]api.Datum, 1<<20)...))
	d := list() // many times over, though it takes little room
	for range 62 {
		d = list(d, d)
	}
	refused(t, d)
	d = list(sym("a"), sym("a")) // without end
	d.List[0], d.List[1] = d, d
	refused(t, d)
}

// Where it stands, what is not sound leaves nothing of the whole.
func TestRefused(t *testing.T) {
	a := sym("a")
	for _, d := range []api.Datum{
		{}, {Kind: -1}, {Kind: 12}, {Kind: math.MinInt}, {Kind: math.MaxInt}, {Kind: 12, Text: "a"},
		sym(""), sym("."), sym("1"), sym("-1"), sym("#a"), sym("a b"), sym("(a"), sym("\xFF"), sym(strings.Repeat("a", api.MaxName+1)),
		str("\xFF"), str("a\xC3"), str(strings.Repeat("a", api.MaxString+1)), str(strings.Repeat("a", api.MaxText+1)),
		chr(""), chr("ab"), chr("\xFF"), chr("a\xFF"), chr("\xED\xA0\x80"), chr("space"),
		integer(true), integer(false, 0), integer(false, 1, 0), integer(false, api.Base), integer(false, make([]uint32, api.MaxLimbs+1)...), integer(false, slices.Repeat([]uint32{1}, api.MaxLimbs+1)...),
		leaf(api.True, "a"), leaf(api.False, "f"), leaf(api.Void, "void"), {Kind: api.Integer, Text: "1", Num: num.Of(1)},
		{Kind: api.Symbol, Text: "a", Num: num.Of(1)}, {Kind: api.String, Num: api.Int{Neg: true}}, {Kind: api.Other, Num: num.Of(1)}, {Kind: api.Void, Num: num.Of(1)},
		{Kind: api.Symbol, Text: "a", List: []api.Datum{a}}, {Kind: api.Other, List: []api.Datum{a}}, {Kind: api.Integer, List: []api.Datum{a}}, {Kind: api.List, Text: "a"}, {Kind: api.Vector, Num: num.Of(1)},
		dotted(), dotted(a), dotted(a, list()), dotted(a, list(a)), dotted(a, dotted(a, a)),
	} {
		refused(t, d)
		refused(t, list(a, d))
		refused(t, vector(d, a))
		refused(t, dotted(d, a))
		refused(t, dotted(a, d))
		refused(t, list(a, vector(a, dotted(a, list(d), a)), a))
	}
	prints(t, "(a . #<>)", dotted(a, api.Datum{Kind: api.Other, At: math.MinInt, List: []api.Datum{}, Num: api.Int{Limbs: []uint32{}}}))
}

// P5.2

// escapes are what P5.2 says of each character that does not stand as it is.
func escapes() map[rune]string {
	all := map[rune]string{'\\': `\\`, '"': `\"`, 10: `\n`, 9: `\t`, 13: `\r`, 127: `\x7f;`}
	for c := range rune(32) {
		if all[c] == "" {
			all[c] = fmt.Sprintf(`\x%x;`, c)
		}
	}
	return all
}

var escaped = escapes()

// quoted is what P5.2 says of s, told character by character.
func quoted(s string) string {
	text := `"`
	for s != "" {
		c, size := utf8.DecodeRuneInString(s)
		if escape := escaped[c]; escape != "" {
			text += escape
		} else {
			text += s[:size]
		}
		s = s[size:]
	}
	return text + `"`
}

func TestQuoted(t *testing.T) {
	quotes(t, `""`, "")
	quotes(t, `"a"`, "a")
	quotes(t, `"\\"`, `\`)
	quotes(t, `"\""`, `"`)
	quotes(t, `"\n\t\r"`, "\n\t\r")
	quotes(t, `"\x0;\x1;\x8;\xb;\xc;\xe;\xf;\x10;\x1a;\x1f; ~\x7f;"`, "\x00\x01\x08\x0B\x0C\x0E\x0F\x10\x1A\x1F ~\x7F")
	quotes(t, `"\\n\\x41;"`, `\n\x41;`)
	quotes(t, `"'(a;b)#|`+"`"+`"`, "'(a;b)#|`")
	quotes(t, "\"\u0080\u0085\u00A0\u00E4\u2028\uFEFF\uFFFD\U0010FFFF\"", "\u0080\u0085\u00A0\u00E4\u2028\uFEFF\uFFFD\U0010FFFF") // no other one is escaped
}

// What is no UTF-8 stands as it is, whatever stands around it.
func TestQuotedBytes(t *testing.T) {
	quotes(t, "\"\xFF\"", "\xFF")
	quotes(t, "\"\xC3\\n\xE2\x82\\\"\"", "\xC3\n\xE2\x82\"")
	quotes(t, "\"\xC0\x80\xC1\xBF\xED\xA0\x80\xF4\x90\x80\x80\\x0;\"", "\xC0\x80\xC1\xBF\xED\xA0\x80\xF4\x90\x80\x80\x00")
	for a := range 256 {
		one := string([]byte{byte(a)})
		quotes(t, quoted(one), one)
		for b := range 256 {
			two := string([]byte{byte(a), byte(b)})
			quotes(t, quoted(two), two)
			quotes(t, quoted("\xE2"+two+"\xAC\n"), "\xE2"+two+"\xAC\n")
		}
	}
}

func TestQuotedChars(t *testing.T) {
	for c := range rune(utf8.MaxRune + 1) {
		if utf8.ValidRune(c) {
			quotes(t, quoted(string(c)), string(c))
		}
	}
}

// Quoted has no limit of its own.
func TestQuotedLong(t *testing.T) {
	for _, n := range []int{api.MaxString + 1, api.MaxText + 1, 1 << 22} {
		quotes(t, `"`+strings.Repeat("a", n)+`"`, strings.Repeat("a", n))
		quotes(t, `"`+strings.Repeat(`\x1;`, n)+`"`, strings.Repeat("\x01", n))
		quotes(t, `"`+strings.Repeat("\xFF", n)+`"`, strings.Repeat("\xFF", n))
	}
}

// What follows

// back tells if d's text is read again as d, alone; or refused, if it is longer than a text.
func back(t *testing.T, d api.Datum) {
	t.Helper()
	text, e := print.Print(d)
	if e != api.OK {
		t.Fatalf("Print of %s: %d", outside(d), e)
	}
	got, at, e := read.Read([]byte(text), api.MaxDepth)
	if len(text) > api.MaxText {
		if e != api.ErrLarge {
			t.Errorf("%s, of %d bytes: %d", brief(text), len(text), e)
		}
		return
	}
	if e != api.OK || len(got) != 1 || !read.Same(got[0], d) {
		t.Errorf("%s, the text of %s, is read otherwise: %d, %d at %d", brief(text), outside(d), len(got), e, at)
	}
}

func TestBackLeaves(t *testing.T) {
	var chars, names []api.Datum
	var all string
	for c := range rune(utf8.MaxRune + 1) {
		if !utf8.ValidRune(c) {
			continue
		}
		text := string(c)
		chars, all = append(chars, chr(text)), all+text
		if len(chars) == 1000 || c == utf8.MaxRune {
			back(t, vector(append(chars, str(all))...))
			chars, all = nil, ""
		}
		if c > 0x3000 { // each one alone, too, but for most, which takes long
			continue
		}
		back(t, chr(text))
		back(t, str(text))
		for _, name := range []string{text, "a" + text + "b", "-" + text, "." + text} {
			if read.Sound(sym(name)) {
				back(t, sym(name))
				names = append(names, sym(name))
			}
		}
	}
	for in := range slices.Chunk(names, 500) {
		back(t, dotted(in...))
	}
	for n := range 10000 {
		back(t, whole(n*n*n))
		back(t, whole(-n))
	}
	most := slices.Repeat([]uint32{api.Base - 1}, api.MaxLimbs)
	back(t, integer(false, most...))
	back(t, integer(true, most...))
	for _, text := range []string{`\x41;`, `\`, `\\`, `"`, `\"`, "\x00\n\x7F1;", strings.Repeat("\n", api.MaxString), strings.Repeat("\x01", api.MaxString), strings.Repeat("\U0001F600", api.MaxString)} {
		back(t, str(text))
	}
}

func TestBackLimits(t *testing.T) {
	for _, kind := range []int{api.List, api.Vector, api.Dotted} {
		d := sym("a")
		for range api.MaxDepth - 1 {
			if d = group(kind, d); kind == api.Dotted {
				d.List = append(d.List, sym("a"))
			}
			back(t, d)
		}
		back(t, group(kind, slices.Repeat([]api.Datum{chr("a")}, api.MaxNodes-1)...))
		back(t, vector(slices.Repeat([]api.Datum{group(kind, sym("a"), sym("b"))}, (api.MaxNodes-1)/3)...))
	}
	size := api.MaxNodes - 1
	name := func(n int) api.Datum { return sym(strings.Repeat("a", n)) }
	full := slices.Repeat([]api.Datum{name(7)}, size)
	full = append(full[:size-1], name(api.MaxText-2-8*(size-1)))
	if text, _ := print.Print(list(full...)); len(text) != api.MaxText {
		t.Fatalf("%d bytes", len(text))
	}
	back(t, list(full...))
	full[0] = name(8)
	back(t, list(full...))
}

// built is what in is as a list, or a vector; false, if it can't be one of that kind.
func built(kind int, in []api.Datum) (api.Datum, bool) {
	d := group(kind, slices.Clone(in)...)
	if kind == api.Dotted {
		n := len(in)
		return d, n >= 2 && in[n-1].Kind != api.List && in[n-1].Kind != api.Dotted
	}
	return d, true
}

// text is what P5.1 says of d, told by joining.
func text(d api.Datum) string {
	var in []string
	for _, x := range d.List {
		in = append(in, text(x))
	}
	if n := len(in); d.Kind == api.Dotted {
		in[n-1] = ". " + in[n-1]
	}
	inner := "(" + strings.Join(in, " ") + ")"
	switch d.Kind {
	case api.List, api.Dotted:
		return inner
	case api.Vector:
		return "#" + inner
	case api.Symbol:
		return d.Text
	case api.String:
		return quoted(d.Text)
	case api.Char:
		return `#\` + strings.Replace(d.Text, " ", "space", 1)
	case api.Integer:
		n, _ := num.Small(d.Num)
		return fmt.Sprint(n)
	}
	return map[int]string{api.True: "#t", api.False: "#f", api.Void: "#<void>", api.Other: "#<" + d.Text + ">"}[d.Kind]
}

// few are leaves, from which greater datums are made.
func few() []api.Datum {
	return []api.Datum{sym("a"), sym("quote"), str("\x01\""), chr(" "), chr("("), whole(-7), leaf(api.True, ""), leaf(api.False, "")}
}

// groups are all lists and vectors of up to n of these.
func groups(of []api.Datum, n int) []api.Datum {
	var all []api.Datum
	var grow func(in []api.Datum)
	grow = func(in []api.Datum) {
		for _, kind := range []int{api.List, api.Dotted, api.Vector} {
			if d, ok := built(kind, in); ok {
				all = append(all, d)
			}
		}
		if len(in) == n {
			return
		}
		for _, d := range of {
			grow(append(slices.Clone(in), d))
		}
	}
	grow(nil)
	return all
}

// All datums that are small, in three steps, with those that can't be read again beside them.
func TestAllSmall(t *testing.T) {
	odd := []api.Datum{leaf(api.Void, ""), other("box"), other("> ")}
	for _, d := range append(few(), odd...) {
		prints(t, text(d), d)
	}
	once := groups(few(), 2)
	for _, d := range append(groups(few(), 3), groups(append(once, few()...), 2)...) {
		prints(t, text(d), d)
		back(t, d)
	}
	for _, d := range groups(append(odd, append(few(), groups(odd, 1)...)...), 3) {
		prints(t, text(d), d)
	}
}

// Greater datums, always the same ones.
func TestAllGreater(t *testing.T) {
	seed := uint64(1)
	pick := func(n int) int {
		seed = seed*6364136223846793005 + 1442695040888963407
		return int((seed >> 33) % uint64(n))
	}
	var some func(deep int) api.Datum
	some = func(deep int) api.Datum {
		if leaves := few(); deep == 0 || pick(3) == 0 {
			return leaves[pick(len(leaves))]
		}
		var in []api.Datum
		for range pick(5) {
			in = append(in, some(deep-1))
		}
		if d, ok := built(api.List+pick(3), in); ok {
			return d
		}
		return vector(in...)
	}
	for i := range 20000 {
		d := some(i % 7)
		prints(t, text(d), d)
		back(t, d)
	}
}

// R4: what is handed in, and its spare room, is not changed.
func TestMemory(t *testing.T) {
	limbs := []uint32{1, 2, 3, 4}
	in := []api.Datum{dotted(sym("a"), integer(true, limbs[:2]...)), vector(str("\n")), sym("spare"), sym("room")}
	before := copied(list(in...))
	d := list(in[:2]...)
	prints(t, `((a . -2000000001) #("\n"))`, d)
	refused(t, list(in[0], dotted(in[:1]...)))
	print.Quoted(in[1].List[0].Text)
	if !read.Same(list(in...), before) || !slices.Equal(limbs, []uint32{1, 2, 3, 4}) {
		t.Error("what was handed in was changed")
	}
}

// R5: the same calls have the same answers, whatever was called between.
func TestAgain(t *testing.T) {
	for range 3 {
		prints(t, "(a . b)", dotted(sym("a"), sym("b")))
		refused(t, list(sym("a"), dotted()))
		quotes(t, `"a\n"`, "a\n")
		prints(t, "#()", vector())
		quotes(t, `""`, "")
	}
}
