package token_test

import (
	"math"
	"reflect"
	"regexp"
	"slices"
	"strconv"
	"strings"
	"testing"

	"marginalia/api"
	"marginalia/num"
	"marginalia/token"
	"marginalia/utf"
)

// chars are the characters of s, which is UTF-8.
func chars(s string) (list []int) {
	for _, c := range s {
		list = append(list, int(c))
	}
	return list
}

// plain is a word that has neither a name nor a datum.
func plain(kind, at int) token.Token { return token.Token{Kind: kind, At: at} }

// abbrev is a word that stands for a name.
func abbrev(name string, at int) token.Token {
	return token.Token{Kind: token.Abbrev, Text: name, At: at}
}

// leaf is the word of a datum.
func leaf(d api.Datum, at int) token.Token {
	d.At = at
	return token.Token{Kind: token.Leaf, Datum: d, At: at}
}

func sym(s string, at int) token.Token { return leaf(api.Datum{Kind: api.Symbol, Text: s}, at) }
func str(s string, at int) token.Token { return leaf(api.Datum{Kind: api.String, Text: s}, at) }
func chr(c rune, at int) token.Token {
	return leaf(api.Datum{Kind: api.Char, Text: string(c)}, at)
}
func whole(n, at int) token.Token    { return leaf(api.Datum{Kind: api.Integer, Num: num.Of(n)}, at) }
func truth(kind, at int) token.Token { return leaf(api.Datum{Kind: kind}, at) }

// sameDatum tells if both are the same; lists that are nil and empty are.
func sameDatum(a, b api.Datum) bool {
	if !slices.Equal(a.Num.Limbs, b.Num.Limbs) || !slices.EqualFunc(a.List, b.List, sameDatum) {
		return false
	}
	return a.Kind == b.Kind && a.Text == b.Text && a.Num.Neg == b.Num.Neg && a.At == b.At
}

// sameToken tells if both are the same.
func sameToken(a, b token.Token) bool {
	return a.Kind == b.Kind && a.Text == b.Text && a.At == b.At && sameDatum(a.Datum, b.Datum)
}

// scans holds what Scan answers of text against its words.
func scans(t *testing.T, text string, want ...token.Token) {
	t.Helper()
	list, at, e := token.Scan(chars(text))
	if e != api.OK || at != 0 || !slices.EqualFunc(list, want, sameToken) {
		t.Errorf("Scan of %.60q: %v, %d, %d, not %v", text, list, at, e, want)
	}
}

// fails tells if Scan gives text up at the place of a word that is none.
func fails(t *testing.T, text string, place int) {
	t.Helper()
	list, at, e := token.Scan(chars(text))
	if e != api.ErrRead || at != place || len(list) != 0 {
		t.Errorf("Scan of %.60q: %v, %d, %d, not ErrRead at %d", text, list, at, e, place)
	}
}

// P3.1

func TestKinds(t *testing.T) {
	kinds := []int{token.Open, token.Close, token.OpenV, token.Dot, token.Skip, token.Abbrev, token.Leaf}
	if !slices.Equal(kinds, []int{1, 2, 3, 4, 5, 6, 7}) {
		t.Errorf("the kinds are %v", kinds)
	}
}

func TestMarks(t *testing.T) {
	for text, want := range map[string]token.Token{
		"(":   plain(token.Open, 0),
		")":   plain(token.Close, 0),
		"#(":  plain(token.OpenV, 0),
		"#;":  plain(token.Skip, 0),
		".":   plain(token.Dot, 0),
		"'":   abbrev("quote", 0),
		"`":   abbrev("quasiquote", 0),
		",":   abbrev("unquote", 0),
		",@":  abbrev("unquote-splicing", 0),
		"#'":  abbrev("syntax", 0),
		"#`":  abbrev("quasisyntax", 0),
		"#,":  abbrev("unsyntax", 0),
		"#,@": abbrev("unsyntax-splicing", 0),
	} {
		scans(t, text, want)
		late := want
		late.At = 2
		scans(t, "( "+text, plain(token.Open, 0), late)
		scans(t, text+" a", want, sym("a", len(text)+1))
		scans(t, text+" "+text, want, token.Token{Kind: want.Kind, Text: want.Text, At: len(text) + 1})
		if text != "." {
			scans(t, text+"ab", want, sym("ab", len(text)))
			scans(t, text+"#t", want, truth(api.True, len(text)))
			scans(t, text+"\"\"", want, str("", len(text)))
			scans(t, text+"-7", want, whole(-7, len(text)))
		}
	}
}

func TestWords(t *testing.T) {
	scans(t, "")
	scans(t, "(a . #\\x)", plain(token.Open, 0), sym("a", 1), plain(token.Dot, 3), chr('x', 5), plain(token.Close, 8))
	scans(t, "()#()", plain(token.Open, 0), plain(token.Close, 1), plain(token.OpenV, 2), plain(token.Close, 4))
	scans(t, "(.)", plain(token.Open, 0), plain(token.Dot, 1), plain(token.Close, 2))
	scans(t, ".'.", plain(token.Dot, 0), abbrev("quote", 1), plain(token.Dot, 2))
	scans(t, "a.b .c d. .. ... .1", sym("a.b", 0), sym(".c", 4), sym("d.", 7), sym("..", 10), sym("...", 13), sym(".1", 17))
	scans(t, "a(b)c", sym("a", 0), plain(token.Open, 1), sym("b", 2), plain(token.Close, 3), sym("c", 4))
	scans(t, "a'b`c,d,@e", sym("a", 0), abbrev("quote", 1), sym("b", 2), abbrev("quasiquote", 3), sym("c", 4), abbrev("unquote", 5), sym("d", 6), abbrev("unquote-splicing", 7), sym("e", 9))
	scans(t, "a\"b\"c", sym("a", 0), str("b", 1), sym("c", 4))
	scans(t, "\"a\"\"b\"(", str("a", 0), str("b", 3), plain(token.Open, 6))
	scans(t, "a# a#b a#(", sym("a#", 0), sym("a#b", 3), sym("a#", 7), plain(token.Open, 9))
	scans(t, "a#'b", sym("a#", 0), abbrev("quote", 2), sym("b", 3))
	scans(t, "a#;b", sym("a#", 0))
	scans(t, "a@,@@ @", sym("a@", 0), abbrev("unquote-splicing", 2), sym("@", 4), sym("@", 6))
	scans(t, ", @", abbrev("unquote", 0), sym("@", 2))
	scans(t, ",,@,", abbrev("unquote", 0), abbrev("unquote-splicing", 1), abbrev("unquote", 3))
	scans(t, "#,,@", abbrev("unsyntax", 0), abbrev("unquote-splicing", 2))
	scans(t, "#,@@", abbrev("unsyntax-splicing", 0), sym("@", 3))
	scans(t, "#, @", abbrev("unsyntax", 0), sym("@", 3))
	scans(t, "#'#`#,#;#(", abbrev("syntax", 0), abbrev("quasisyntax", 2), abbrev("unsyntax", 4), plain(token.Skip, 6), plain(token.OpenV, 8))
}

func TestLeaves(t *testing.T) {
	scans(t, "#t #true #f #false", truth(api.True, 0), truth(api.True, 3), truth(api.False, 9), truth(api.False, 12))
	scans(t, "0 -0 +7 -007 12", whole(0, 0), whole(0, 2), whole(7, 5), whole(-7, 8), whole(12, 13))
	scans(t, "1000000007(", leaf(api.Datum{Kind: api.Integer, Num: api.Int{Limbs: []uint32{7, 1}}}, 0), plain(token.Open, 10))
	scans(t, "+ - ... +a -- -> x1 a\\b |a| [b] {c}", sym("+", 0), sym("-", 2), sym("...", 4), sym("+a", 8), sym("--", 11), sym("->", 14), sym("x1", 17), sym("a\\b", 20), sym("|a|", 24), sym("[b]", 28), sym("{c}", 32))
	scans(t, "\u00E4\U0001F600 \u00A0 \u2003 \x00 \x0B\x0C \u0661", sym("\u00E4\U0001F600", 0), sym("\u00A0", 3), sym("\u2003", 5), sym("\x00", 7), sym("\x0B\x0C", 9), sym("\u0661", 12))
	scans(t, "#t(#f)#f;", truth(api.True, 0), plain(token.Open, 2), truth(api.False, 3), plain(token.Close, 5), truth(api.False, 6))
}

func TestBetween(t *testing.T) {
	for _, none := range []string{" ", "\t", "\n", "\r", " \t\r\n\n ", ";", "; a (", ";\n", "; a\n", ";;", ";\r", "; \"\n; #\\\n\n ", ";\n;\n;", "; #| a"} {
		scans(t, none)
		n := len(none)
		scans(t, none+"\na", sym("a", n+1))
		scans(t, "a"+none+"\nb", sym("a", 0), sym("b", n+2))
		scans(t, "a("+none+"\n)b", sym("a", 0), plain(token.Open, 1), plain(token.Close, n+3), sym("b", n+4))
		scans(t, "\"a\""+none+"\n#\\b", str("a", 0), chr('b', n+4))
	}
	scans(t, "a;b\rc\nd", sym("a", 0), sym("d", 6))
	scans(t, "a;b\u2028c\x0Bd\u0085e", sym("a", 0))
	scans(t, "a ;b;c\n;d\n e", sym("a", 0), sym("e", 11))
	scans(t, "\";\" #\\; ;", str(";", 0), chr(';', 4))
	scans(t, "#;;a\nb", plain(token.Skip, 0), sym("b", 5))
}

func TestStrings(t *testing.T) {
	for _, c := range []struct{ text, want string }{
		{``, ""}, {`a`, "a"}, {` a `, " a "}, {`\n`, "\n"}, {`\t`, "\t"}, {`\r`, "\r"}, {`\\`, `\`}, {`\"`, `"`},
		{`a\nb`, "a\nb"}, {`\n\t\r\\\"`, "\n\t\r\\\""}, {`\\n`, `\n`}, {`\\\\`, `\\`}, {`\"\\`, `"\`}, {`\\\"`, `\"`},
		{"(a . b) ; c # ' ` , ", "(a . b) ; c # ' ` , "},
		{"\n\r\t\x00\x7F", "\n\r\t\x00\x7F"}, {"\u00E4\u20AC\U0001F600", "\u00E4\u20AC\U0001F600"}, {"a;\nb", "a;\nb"},
		{`\x41;`, "A"}, {`\x041;`, "A"}, {`\x000041;`, "A"}, {`\x0;`, "\x00"}, {`\x000000;`, "\x00"}, {`\xa;`, "\n"}, {`\xA;`, "\n"}, {`\x22;`, `"`}, {`\x5c;`, `\`}, {`\x5C;`, `\`},
		{`\xe4;`, "\u00E4"}, {`\xE4;`, "\u00E4"}, {`\xd7ff;`, "\uD7FF"}, {`\xE000;`, "\uE000"}, {`\xfFfF;`, "\uFFFF"}, {`\x10FFFF;`, "\U0010FFFF"}, {`\x10fffd;`, "\U0010FFFD"},
		{`\x41;\x42;41;`, "AB41;"}, {`x41;`, "x41;"}, {`\\x41;`, `\x41;`}, {`\x5c;x41;`, `\x41;`}, {`\x3b;;`, ";;"},
	} {
		n := len([]rune(c.text))
		scans(t, `"`+c.text+`"`, str(c.want, 0))
		scans(t, ` "`+c.text+`"a`, str(c.want, 1), sym("a", n+3))
		scans(t, `("`+c.text+`")`, plain(token.Open, 0), str(c.want, 1), plain(token.Close, n+3))
		for _, tail := range []string{"", " ", "(a)", "\n"} { // without its end
			fails(t, `a "`+c.text+tail, 2)
		}
	}
}

func TestStringsRefused(t *testing.T) {
	for _, text := range []string{
		`\`, `a\`, `\x`, `\x4`, `\x41`, // without an end
		`\a"`, `\b"`, `\N"`, `\T"`, `\X41;"`, `\u0041"`, `\0"`, `\'"`, `\;"`, `\ "`, "\\\n\"", "\\\t\"", "\\\u00E4\"", `\(a)"`, `a\nb\c"`,
		`\x;"`, `\x41"`, `\x41 ;"`, `\x 41;"`, `\xg;"`, `\x4g;"`, `\x+1;"`, `\x-1;"`, `\x0x41;"`, `\xx41;"`, `\x4_1;"`, "\\x\uFF14\uFF11;\"",
		`\x0000041;"`, `\x0000000;"`, `\x1000000;"`, `\x010ffff;"`, `\x10000000000000041;"`, `\xd800;"`, `\xDBFF;"`, `\xdc00;"`, `\xDFFF;"`, `\x110000;"`, `\xffffff;"`,
		`\xspace;"`, `\x"`, `\x";"`, `\x41";"`, `\x\;"`,
	} {
		fails(t, `"`+text, 0)
		fails(t, `(ab "`+text, 4)
		fails(t, `"ok" "`+text, 5)
		fails(t, `"`+text+` 1b`, 0)
	}
}

// Each number that hexadecimal digits can tell in an escape, small and not, at some distance from one another and at their ends.
func TestStringsNumbered(t *testing.T) {
	list := []int{0, 0xD7FF, 0xD800, 0xDFFF, 0xE000, 0xFFFF, 0x10FFFF, 0x110000, 0xFFFFFF}
	for c := 1; c < 1<<24; c += 1009 {
		list = append(list, c)
	}
	for _, c := range list {
		digits := strconv.FormatInt(int64(c), 16)
		for _, s := range []string{digits, strings.ToUpper(digits), strings.Repeat("0", 6-len(digits)) + digits} {
			if utf.Scalar(c) {
				scans(t, `"\x`+s+`;"`, str(string(rune(c)), 0))
			} else {
				fails(t, `"\x`+s+`;"`, 0)
			}
		}
	}
}

func TestStringsLimit(t *testing.T) {
	for _, c := range []struct{ text, want string }{
		{"a", "a"}, {"\u00E4", "\u00E4"}, {"\U0001F600", "\U0001F600"}, {`\n`, "\n"}, {`\x1F600;`, "\U0001F600"}, {"\n", "\n"}, {`\"`, `"`}, {`\\`, `\`},
	} {
		most := strings.Repeat(c.text, api.MaxString)
		want := strings.Repeat(c.want, api.MaxString)
		scans(t, `"`+most+`"`, str(want, 0))
		scans(t, `"`+most+`" ""`, str(want, 0), str("", len([]rune(most))+3))
		fails(t, `"`+most+c.text+`"`, 0)
		fails(t, `a "a`+most+`"`, 2)
		fails(t, `a "`+most+`\x41;"`, 2)
		fails(t, `a "`+most+most+`" "`, 2)
		fails(t, `a "`+most, 2)
	}
}

func TestChars(t *testing.T) {
	for text, want := range map[string]rune{
		"a": 'a', "x": 'x', "X": 'X', "0": '0', "#": '#', "\\": '\\', ".": '.', "@": '@', "\u00E4": 0xE4, "\U0001F600": 0x1F600, "\uFFFD": 0xFFFD, "\U0010FFFF": 0x10FFFF,
		"space": 32, "newline": 10, "tab": 9, "return": 13, "null": 0, "delete": 127,
		"x41": 65, "x041": 65, "x000041": 65, "x0": 0, "xa": 10, "xA": 10, "xe4": 0xE4, "xE4": 0xE4, "xD7FF": 0xD7FF, "xe000": 0xE000, "x10ffff": 0x10FFFF, "x1": 1,
		"(": '(', ")": ')', ";": ';', "\"": '"', "'": '\'', "`": '`', ",": ',', " ": ' ', "\n": '\n', "\t": '\t', "\r": '\r', "\x00": 0, "\x01": 1, "\x7F": 127,
	} {
		n := len([]rune(text)) + 2
		scans(t, "#\\"+text, chr(want, 0))
		scans(t, "(#\\"+text+")", plain(token.Open, 0), chr(want, 1), plain(token.Close, n+1))
		scans(t, "#\\"+text+";a", chr(want, 0))
		scans(t, "#\\"+text+"\"a\"", chr(want, 0), str("a", n))
		scans(t, "#\\"+text+" #\\"+text, chr(want, 0), chr(want, n+1))
		for _, mark := range []string{"'", "`", ","} {
			scans(t, "#\\"+text+mark+"a", chr(want, 0), abbrev(map[string]string{"'": "quote", "`": "quasiquote", ",": "unquote"}[mark], n), sym("a", n+1))
		}
		for _, blank := range []string{" ", "\t", "\n", "\r"} {
			scans(t, "#\\"+text+blank+"a", chr(want, 0), sym("a", n+1))
		}
	}
	scans(t, "#\\((", chr('(', 0), plain(token.Open, 3))
	scans(t, "#\\))", chr(')', 0), plain(token.Close, 3))
	scans(t, "#\\;;a", chr(';', 0))
	scans(t, "#\\\"\"a\"", chr('"', 0), str("a", 3))
	scans(t, "#\\   a", chr(' ', 0), sym("a", 5))
}

func TestCharsRefused(t *testing.T) {
	for _, text := range []string{
		"", "ab", "xx", "xg", "x4g", "x0000041", "xD800", "xdfff", "x110000", "x-1", "x+1", "Space", "SPACE", "spac", "spaces", "nul", "linefeed", "escape", "aa", "a#", "a#t", "X41", "u41", "41",
		"(a", ")a", ";a", "\"a", "'a", "`a", ",a", ",@", " a", "\na", "\ta", "\ra", "\\n", "\\x41", "#\\a", "\u00E4\u00E4", "a\u0301", "\x00\x00", "a.", "..", strings.Repeat("x", 1000), "x" + strings.Repeat("0", 1000),
	} {
		fails(t, "#\\"+text, 0)
		fails(t, "(ab #\\"+text, 4)
		if text != "" {
			fails(t, "#\\"+text+")", 0)
			fails(t, "#\\a #\\"+text+" #\\"+text, 4)
		}
	}
}

func TestAtomsRefused(t *testing.T) {
	for _, text := range []string{
		"##", "#a", "#T", "#F", "#tr", "#tt", "#truE", "#trues", "#fals", "#falsee", "#1", "#.", "#@", "#|", "#!eof", "#u8", "#x41", "#d1", "##t", "#\u00E4",
		"1a", "1+", "1.", "1.5", "1e3", "1/2", "0x1", "+1a", "-1a", "-1-", "+1.5", "1#", "7..", "-0a", "9a",
		strings.Repeat("a", api.MaxName+1), strings.Repeat("\u00E4", api.MaxName/2) + "a", strings.Repeat("9", 9*api.MaxLimbs+1), "-1" + strings.Repeat("0", 9*api.MaxLimbs),
	} {
		fails(t, text, 0)
		fails(t, "(ab "+text+")", 4)
		fails(t, "a "+text+"(b", 2)
		fails(t, "a "+text+" "+text, 2)
		fails(t, "'"+text+"; b", 1)
		fails(t, "; \u00E4 comment\n\"\u00E4\""+text, 15)
	}
	fails(t, "#", 0)
	fails(t, "a #", 2)
	fails(t, "#\"a\"", 0)
	fails(t, "# (a)", 0)
	fails(t, "#)", 0)
	fails(t, "'#\na", 1)
	fails(t, "##(a)", 0)
	fails(t, "#t#", 0)
	fails(t, "#\\a#", 0)
}

// The first word that is none counts, whatever stands behind it; what stands ahead of it makes no difference.
func TestFirstFault(t *testing.T) {
	fails(t, "a 1b \"c", 2)
	fails(t, "a \"c 1b", 2)
	fails(t, "a \"c\" 1b \"d", 6)
	fails(t, "a #\\xx \"d", 2)
	fails(t, ") ) . #; ' 1b", 11)
	fails(t, "; 1b\n\"1b\" #\\1 1b", 14)
}

func TestErrArg(t *testing.T) {
	far := []int{math.MinInt, math.MinInt32, -'a', -1, 0xD800, 0xDBFF, 0xDC00, 0xDFFF, 0x110000, 0x7FFFFFFF, 1<<32 + 'a', math.MaxInt}
	for _, c := range far {
		for text, at := range map[string]int{"": 0, "a": 1, "(a b)": 5, "; ": 2, "\"": 1, "\"\\": 2, "\"\\x": 3, "#\\": 2, "1b ": 3, "\u00E4\U0001F600": 2, "a \"b\" #\\xx ": 11} {
			for _, behind := range []string{"", "a", "\"", " 1b"} {
				list, place, e := token.Scan(slices.Concat(chars(text), []int{c}, chars(behind)))
				if e != api.ErrArg || place != at || len(list) != 0 {
					t.Errorf("Scan of %q, %X, %q: %v, %d, %d", text, c, behind, list, place, e)
				}
			}
		}
		list, at, e := token.Scan([]int{'a', c, c, -1, 0xD800})
		if e != api.ErrArg || at != 1 || len(list) != 0 {
			t.Errorf("Scan of a, %X and more: %v, %d, %d", c, list, at, e)
		}
	}
	scans(t, "\uD7FF\uE000\U0010FFFF\x00", sym("\uD7FF\uE000\U0010FFFF\x00", 0))
}

// Each character alone, in a symbol, as a character and in a string.
func TestEach(t *testing.T) {
	for c := range 0x110000 {
		if !utf.Scalar(c) {
			continue
		}
		s := string(rune(c))
		scans(t, "#\\"+s, chr(rune(c), 0))
		if c != '"' && c != '\\' {
			scans(t, `"`+s+`"`, str(s, 0))
		}
		if !utf.Ends(c) {
			scans(t, "a"+s+"b", sym("a"+s+"b", 0))
		}
		if !utf.Ends(c) && c != '#' && c != '.' && (c < '0' || c > '9') {
			scans(t, s, sym(s, 0))
		}
	}
}

// What the promises say of a word, as patterns: the first one that fits counts.
var (
	between  = regexp.MustCompile(`^(?:[\t\n\r ]|;[^\n]*)+`)
	quoted   = regexp.MustCompile(`^"((?:[^"\\]|\\[ntr\\"]|\\x[0-9A-Fa-f]{1,6};)*)"`)
	escapes  = regexp.MustCompile(`\\(?:[ntr\\"]|x[0-9A-Fa-f]+;)`)
	char     = regexp.MustCompile(`^#\\((?s:.)[^();"'` + "`" + `,\t\n\r ]*)`)
	sign     = regexp.MustCompile(`^(?:#,@|#,|#'|#` + "`" + `|#\(|#;|,@|,|'|` + "`" + `|\(|\))`)
	unquoted = regexp.MustCompile(`^[^();"'` + "`" + `,\t\n\r ]+`)
	integer  = regexp.MustCompile(`^[+-]?[0-9]+$`)
	symbol   = regexp.MustCompile(`^(?:[^#+\-0-9]|[+-](?:$|[^0-9]))`)
	signs    = map[string]token.Token{
		"(": plain(token.Open, 0), ")": plain(token.Close, 0), "#(": plain(token.OpenV, 0), "#;": plain(token.Skip, 0),
		"'": abbrev("quote", 0), "`": abbrev("quasiquote", 0), ",": abbrev("unquote", 0), ",@": abbrev("unquote-splicing", 0),
		"#'": abbrev("syntax", 0), "#`": abbrev("quasisyntax", 0), "#,": abbrev("unsyntax", 0), "#,@": abbrev("unsyntax-splicing", 0),
	}
)

// unescaped is what an escape stands for; false, if for no character.
func unescaped(s string) (string, bool) {
	if s[1] != 'x' {
		return map[byte]string{'n': "\n", 't': "\t", 'r': "\r", '\\': "\\", '"': "\""}[s[1]], true
	}
	c, _ := strconv.ParseInt(s[2:len(s)-1], 16, 64)
	return string(rune(c)), utf.Scalar(int(c))
}

// atom is what P3.2 says of a word without characters that end.
func atom(s string) (api.Datum, bool) {
	switch {
	case s == "#t" || s == "#true":
		return api.Datum{Kind: api.True}, true
	case s == "#f" || s == "#false":
		return api.Datum{Kind: api.False}, true
	case integer.MatchString(s):
		n, ok := num.Parse(s)
		return api.Datum{Kind: api.Integer, Num: n}, ok
	case s == "." || len(s) > api.MaxName || !symbol.MatchString(s):
		return api.Datum{}, false
	}
	return api.Datum{Kind: api.Symbol, Text: s}, true
}

// first is the word that text begins with, and how many bytes it has; 0, if it is none.
func first(text string) (token.Token, int) {
	if m := sign.FindString(text); m != "" {
		return signs[m], len(m)
	}
	if m := char.FindStringSubmatch(text); m != nil {
		c, ok := utf.Named(m[1])
		if !ok {
			return token.Token{}, 0
		}
		return chr(rune(c), 0), len(m[0])
	}
	if strings.HasPrefix(text, `"`) {
		m := quoted.FindStringSubmatch(text)
		if m == nil {
			return token.Token{}, 0
		}
		good := true
		s := escapes.ReplaceAllStringFunc(m[1], func(s string) string {
			r, ok := unescaped(s)
			good = good && ok
			return r
		})
		if !good || len([]rune(s)) > api.MaxString {
			return token.Token{}, 0
		}
		return str(s, 0), len(m[0])
	}
	m := unquoted.FindString(text)
	if m == "." {
		return plain(token.Dot, 0), 1
	}
	d, ok := atom(m)
	if !ok {
		return token.Token{}, 0
	}
	return leaf(d, 0), len(m)
}

// held tells if Scan answers of text what the patterns do.
func held(t *testing.T, text string) {
	t.Helper()
	list, at, e := token.Scan(chars(text))
	var want []token.Token
	place, fault := 0, api.OK
	for rest := text; ; {
		rest = rest[len(between.FindString(rest)):]
		if rest == "" {
			break
		}
		place = len([]rune(text)) - len([]rune(rest))
		w, size := first(rest)
		if size == 0 {
			want, fault = nil, api.ErrRead
			break
		}
		w.At = place
		if w.Kind == token.Leaf {
			w.Datum.At = place
		}
		want, rest = append(want, w), rest[size:]
	}
	if fault == api.OK {
		place = 0
	}
	if e != fault || at != place || !slices.EqualFunc(list, want, sameToken) {
		t.Fatalf("Scan of %q: %v, %d, %d, not %v, %d, %d", text, list, at, e, want, place, fault)
	}
}

// All texts of up to four characters, of those that mean something.
func TestAllShort(t *testing.T) {
	letters := chars("();'`,@#\"\\.-+x4tn \n\u00E4")
	var grow func(text []rune)
	grow = func(text []rune) {
		held(t, string(text))
		if len(text) == 4 {
			return
		}
		for _, c := range letters {
			grow(append(slices.Clone(text), rune(c)))
		}
	}
	grow(nil)
}

// Longer texts of pieces that mean something, always the same ones.
func TestMany(t *testing.T) {
	pieces := []string{"(", ")", "#(", "#;", "'", "`", ",", ",@", "#'", "#`", "#,", "#,@", ".", "..", "\"", "\\", "\\n", "\\\"", "\\x41;", "\\x", ";", "\n", " ", " ", "\t", "\r", "#\\", "#", "#t", "#true", "#f", "#false", "x", "x41", "space", "newline", "12", "-", "+", "-7", "a", "ab", "\u00E4", "\U0001F600", "\"a\"", "\"a\\\\b\"", "#\\a", "\"\\xD800;\"", "\"\\x10FFFF;\"", "@", "...", "if"}
	seed := uint64(1)
	for range 100000 {
		var text strings.Builder
		for range 12 {
			seed = seed*6364136223846793005 + 1442695040888963407
			text.WriteString(pieces[(seed>>33)%uint64(len(pieces))])
		}
		held(t, text.String())
	}
}

// Texts may be longer than chapter 2 reads, and words stand as near to one another as they like.
func TestLong(t *testing.T) {
	const many = 1 << 18
	for text, kind := range map[string]int{"(": token.Open, ")": token.Close, "#(": token.OpenV, "#;": token.Skip, "'": token.Abbrev, "#,@": token.Abbrev, "\"\"": token.Leaf, ". ": token.Dot, "a ": token.Leaf, "#\\a ": token.Leaf} {
		list, at, e := token.Scan(chars(strings.Repeat(text, many)))
		if e != api.OK || at != 0 || len(list) != many || list[many-1].Kind != kind || list[many-1].At != (many-1)*len(text) {
			t.Errorf("%q, many times: %d words, %d, %d", text, len(list), at, e)
		}
	}
	scans(t, strings.Repeat(" ", many)+"a", sym("a", many))
	scans(t, strings.Repeat(";", many)+"\na", sym("a", many+1))
	scans(t, strings.Repeat(";\n", many)+"a", sym("a", 2*many))
	scans(t, strings.Repeat("0", many)+"7", whole(7, 0))
	fails(t, strings.Repeat("a", many), 0)
	fails(t, "#\\"+strings.Repeat("a", many), 0)
	fails(t, `"`+strings.Repeat("a", many)+`"`, 0)
	fails(t, `"\x`+strings.Repeat("0", many)+`;"`, 0)
	fails(t, `"\x`+strings.Repeat("0", many), 0)
	fails(t, strings.Repeat("9", many), 0)
}

// P3.2

// reads holds what Atom answers of s against a datum.
func reads(t *testing.T, s string, want api.Datum) {
	t.Helper()
	if d, ok := token.Atom(s); !ok || !sameDatum(d, want) {
		t.Errorf("Atom(%.80q): %v, %v, not %v", s, d, ok, want)
	}
}

// refuses tells if Atom answers that s is none.
func refuses(t *testing.T, s string) {
	t.Helper()
	if d, ok := token.Atom(s); ok || !sameDatum(d, api.Datum{}) {
		t.Errorf("Atom(%.80q): %v, %v", s, d, ok)
	}
}

func TestAtom(t *testing.T) {
	reads(t, "#t", api.Datum{Kind: api.True})
	reads(t, "#true", api.Datum{Kind: api.True})
	reads(t, "#f", api.Datum{Kind: api.False})
	reads(t, "#false", api.Datum{Kind: api.False})
	for s, n := range map[string]int{"0": 0, "-0": 0, "+0": 0, "7": 7, "+7": 7, "-7": -7, "007": 7, "999999999": 999999999, "1000000000": 1000000000, "-9223372036854775808": math.MinInt} {
		reads(t, s, api.Datum{Kind: api.Integer, Num: num.Of(n)})
	}
	for _, s := range []string{
		"a", "A", "abc", "x41", "+", "-", "*", "/", "..", "...", ".a", ".5", ".#", "+a", "-a", "+-", "--1", "++1", "-+1", "+.5", "-.5", "+#", "->", "<=?", "!", "$", "%", "&", "=", "@", "@a", "a@", "^", "_", "~", "|", "[", "]", "{", "}", "\\", "\\x41", "a#", "a.b", "a1", "a#t", "null?",
		"\u00E4", "\u20AC", "\U0001F600", "\u0661", "+\u0661", "\uFF11a", "\u00B2", "\u2212" + "1", "\u00A0", "\uFEFF", "\x00", "\x01", "\x08", "\x0B", "\x0C", "\x0E", "\x1F", "\x7F", "\u0085", "\u2028", "\uFFFD", "\U0010FFFF",
	} {
		reads(t, s, api.Datum{Kind: api.Symbol, Text: s})
	}
	for _, s := range []string{
		"", ".", "#", "##", "#a", "#T", "#F", "#True", "#FALSE", "#tr", "#tru", "#truee", "#t ", " #t", "#fals", "#\\a", "#(", "#;", "#'", "#1", "#.",
		"1a", "0x1", "1.0", "1.", "1e3", "1/2", "1+", "1-", "1+1", "9#", "0a", "9a", "+0a", "+1a", "-9a", "-1-", "+1+", "-1.5", "00a", "1\u0661", "1\x00",
		" ", "(", ")", ";", "\"", "'", "`", ",", ",@", "()", "\"a\"", "'a", "a b", "a\n", "\ta", "a(b", "a)", "a;b", "a\"", "a'b", "a`", "a,", "1 ", " 1",
		"\xFF", "\x80", "\xC3", "a\xFF", "\xFFa", "\xC0\x80", "a\xED\xA0\x80", "\xF4\x90\x80\x80", "\xE2\x82", "+\xFF", "#t\xFF", "1\xFF",
	} {
		refuses(t, s)
	}
}

func TestAtomLimits(t *testing.T) {
	name := api.Datum{Kind: api.Symbol}
	for _, c := range []string{"a", "\u00E4", "\U0001F600", "."} {
		name.Text = strings.Repeat(c, api.MaxName/len(c))
		reads(t, name.Text, name)
		scans(t, " "+name.Text+"(", sym(name.Text, 1), plain(token.Open, 1+len([]rune(name.Text))))
		refuses(t, name.Text+"a")
		refuses(t, name.Text+c)
		fails(t, " "+name.Text+"a(", 1)
	}
	refuses(t, strings.Repeat("a", api.MaxName-1)+"\u00E4")
	refuses(t, strings.Repeat("a", 1<<20))
	refuses(t, strings.Repeat("\xFF", 1<<20))
	long := api.Datum{Kind: api.Integer, Num: api.Int{Limbs: slices.Repeat([]uint32{api.Base - 1}, api.MaxLimbs)}}
	reads(t, strings.Repeat("9", 9*api.MaxLimbs), long)
	reads(t, "+00"+strings.Repeat("9", 9*api.MaxLimbs), long)
	long.Num.Neg = true
	reads(t, "-"+strings.Repeat("9", 9*api.MaxLimbs), long)
	refuses(t, "1"+strings.Repeat("0", 9*api.MaxLimbs))
	refuses(t, "-1"+strings.Repeat("0", 9*api.MaxLimbs))
	reads(t, strings.Repeat("0", 1<<20)+"7", api.Datum{Kind: api.Integer, Num: num.Of(7)})
}

// Each character: alone, and ahead of, between and behind others.
func TestAtomEach(t *testing.T) {
	for c := range 0x110000 {
		if !utf.Scalar(c) {
			continue
		}
		s := string(rune(c))
		for _, text := range []string{s, s + "a", "a" + s, "a" + s + "b", "+" + s, "-" + s + "a"} {
			want, ok := atom(text)
			if utf.Ends(c) {
				want, ok = api.Datum{}, false
			}
			if d, is := token.Atom(text); is != ok || !sameDatum(d, want) {
				t.Errorf("Atom(%q): %v, %v", text, d, is)
			}
		}
	}
}

// All texts of one and two bytes: those that are no UTF-8 are none.
func TestAtomBytes(t *testing.T) {
	for a := range 256 {
		for b := range 257 {
			text := []byte{byte(a), byte(b)}
			if b == 256 {
				text = text[:1]
			}
			list, _, e := utf.Decode(text)
			want, ok := atom(string(text))
			if e != api.OK || slices.ContainsFunc(list, utf.Ends) {
				want, ok = api.Datum{}, false
			}
			if d, is := token.Atom(string(text)); is != ok || !sameDatum(d, want) {
				t.Errorf("Atom of % X: %v, %v", text, d, is)
			}
		}
	}
}

// R4: what is handed in, and its spare room, is not changed, and what is answered is new memory.
func TestMemory(t *testing.T) {
	for _, text := range []string{"", "(a . #\\x)", "1000000007 -7 \"\\n\u00E4\" #t", "a 1b", "\"a"} {
		all := append(chars(text), chars("spare room 1b \"")...)
		before := slices.Clone(all)
		n := len([]rune(text))
		list, _, _ := token.Scan(all[:n])
		again, _, _ := token.Scan(all[:n])
		want := slices.Clone(again)
		for i := range want {
			want[i].Datum.Num.Limbs = slices.Clone(want[i].Datum.Num.Limbs)
		}
		for _, w := range list {
			clear(w.Datum.Num.Limbs[:cap(w.Datum.Num.Limbs)])
		}
		clear(list[:cap(list)])
		if !slices.Equal(all, before) || !slices.EqualFunc(again, want, sameToken) {
			t.Errorf("Scan of %q changes what it was given, or answered", text)
		}
		clear(all)
		if !slices.EqualFunc(again, want, sameToken) {
			t.Errorf("what Scan of %q answered hangs on what it was given", text)
		}
	}
	d, _ := token.Atom("1000000007")
	clear(d.Num.Limbs[:cap(d.Num.Limbs)])
	reads(t, "1000000007", api.Datum{Kind: api.Integer, Num: api.Int{Limbs: []uint32{7, 1}}})
}

// R3 and R5: beside a fault all else has its zero value, and the same calls have the same answers, whatever was called between.
func TestAgain(t *testing.T) {
	for range 2 {
		for _, text := range [][]int{{'a', ' ', '1', 'b'}, {'a', -1}} {
			if list, _, e := token.Scan(text); list != nil || e == api.OK {
				t.Errorf("Scan of %v: %v, %d", text, list, e)
			}
		}
		scans(t, "a \"b\"", sym("a", 0), str("b", 2))
		fails(t, "a \"b", 2)
		if d, ok := token.Atom("1b"); ok || !reflect.DeepEqual(d, api.Datum{}) {
			t.Errorf("Atom of 1b: %v, %v", d, ok)
		}
		reads(t, "b1", api.Datum{Kind: api.Symbol, Text: "b1"})
	}
	if list, at, e := token.Scan(nil); len(list) != 0 || at != 0 || e != api.OK {
		t.Errorf("Scan of nil: %v, %d, %d", list, at, e)
	}
}
