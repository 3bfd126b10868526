package token

import (
	"marginalia/api"
	"marginalia/utf"
)

// mark is a word that is always written alike.
type mark struct {
	text string
	kind int
	name string
}

// marks are all marks; of two that begin alike, the longer one stands ahead, since the first one that fits is taken.
var marks = [...]mark{
	{"(", Open, ""},
	{")", Close, ""},
	{"'", Abbrev, "quote"},
	{"`", Abbrev, "quasiquote"},
	{",@", Abbrev, "unquote-splicing"},
	{",", Abbrev, "unquote"},
	{"#(", OpenV, ""},
	{"#;", Skip, ""},
	{"#'", Abbrev, "syntax"},
	{"#`", Abbrev, "quasisyntax"},
	{"#,@", Abbrev, "unsyntax-splicing"},
	{"#,", Abbrev, "unsyntax"},
}

// scanner goes through the characters of a text, word by word.
type scanner struct {
	text []int
	from int // where the word begins
	at   int // the character that comes next
}

// fault is what scanning gives up by: the place where the word begins that is none.
type fault struct{ at int }

// words answers all words.
func (s *scanner) words() []Token {
	var list []Token
	for s.skip(); s.at < len(s.text); s.skip() {
		list = append(list, s.word())
	}
	return list
}

// skip passes what stands between words.
func (s *scanner) skip() {
	for s.at < len(s.text) {
		switch c := s.text[s.at]; {
		case c == ';':
			s.until(func(c int) bool { return c == '\n' })
		case utf.Blank(c):
			s.at++
		default:
			return
		}
	}
}

// until passes the characters up to one that stops, or to the end.
func (s *scanner) until(stops func(c int) bool) {
	for s.at < len(s.text) && !stops(s.text[s.at]) {
		s.at++
	}
}

// take passes the characters of t, if they come next, and tells if they do.
func (s *scanner) take(t string) bool {
	if len(t) > len(s.text)-s.at {
		return false
	}
	for i := range len(t) {
		if s.text[s.at+i] != int(t[i]) {
			return false
		}
	}
	s.at += len(t)
	return true
}

// next passes a character, and answers it.
func (s *scanner) next() int {
	if s.at == len(s.text) {
		panic(fault{s.from})
	}
	s.at++
	return s.text[s.at-1]
}

// word passes a word, and answers it.
func (s *scanner) word() Token {
	s.from = s.at
	for _, m := range marks {
		if s.take(m.text) {
			return Token{Kind: m.kind, Text: m.name, At: s.from}
		}
	}
	switch {
	case s.take(`"`):
		return s.quoted()
	case s.take(`#\`):
		return s.char()
	}
	return s.atom()
}

// leaf answers the word of a datum.
func (s *scanner) leaf(d api.Datum) Token {
	d.At = s.from
	return Token{Kind: Leaf, Datum: d, At: s.from}
}

// quoted answers the string whose first quote was passed.
func (s *scanner) quoted() Token {
	var list []int
	for c := s.next(); c != '"'; c = s.next() {
		if c == '\\' {
			c = s.escape()
		}
		if len(list) == api.MaxString {
			panic(fault{s.from})
		}
		list = append(list, c)
	}
	return s.leaf(api.Datum{Kind: api.String, Text: encoded(list)})
}

// escape answers the character of an escape whose backslash was passed.
func (s *scanner) escape() int {
	switch c := s.next(); c {
	case 'n':
		return '\n'
	case 't':
		return '\t'
	case 'r':
		return '\r'
	case '\\', '"':
		return c
	case 'x':
		return s.numbered()
	}
	panic(fault{s.from})
}

// numbered answers the character of an escape whose x was passed.
func (s *scanner) numbered() int {
	first := s.at
	for s.next() != ';' {
	}
	digits := encoded(s.text[first : s.at-1])
	c, ok := utf.Named("x" + digits)
	if digits == "" || !ok { // x alone is a character's name, too
		panic(fault{s.from})
	}
	return c
}

// char answers the character whose number sign and backslash were passed.
func (s *scanner) char() Token {
	first := s.at
	s.next() // the first one counts, whatever it is
	s.until(utf.Ends)
	c, ok := utf.Named(encoded(s.text[first:s.at]))
	if !ok {
		panic(fault{s.from})
	}
	return s.leaf(api.Datum{Kind: api.Char, Text: encoded([]int{c})})
}

// atom answers a word that begins with nothing that tells its kind.
func (s *scanner) atom() Token {
	s.until(utf.Ends)
	text := encoded(s.text[s.from:s.at])
	if text == "." {
		return Token{Kind: Dot, At: s.from}
	}
	d, ok := Atom(text)
	if !ok {
		panic(fault{s.from})
	}
	return s.leaf(d)
}

// encoded answers characters, all of which are Scalar, as UTF-8.
func encoded(list []int) string {
	b, _ := utf.Encode(list...)
	return string(b)
}
