package utf_test

import (
	"bytes"
	"math"
	"slices"
	"strings"
	"testing"

	"marginalia/api"
	"marginalia/utf"
)

// scalar is what P2.1 says of c, held apart from the package's own way of asking.
func scalar(c int) bool { return c >= 0 && c <= 0x10FFFF && c/0x800 != 0xD800/0x800 }

// form is c in so many bytes of UTF-8's shape, be that its shortest form or not, and be c a character or not.
func form(c, size int) []byte {
	if size == 1 {
		return []byte{byte(c)}
	}
	b := make([]byte, size)
	for i := size - 1; i > 0; i-- {
		b[i] = 0x80 | byte(c&0x3F)
		c >>= 6
	}
	b[0] = []byte{0xC0, 0xE0, 0xF0, 0xF8, 0xFC}[size-2] | byte(c)
	return b
}

// short is c's UTF-8.
func short(c int) []byte {
	switch {
	case c < 0x80:
		return form(c, 1)
	case c < 0x800:
		return form(c, 2)
	case c < 0x10000:
		return form(c, 3)
	}
	return form(c, 4)
}

// decode is what P2.1 says of b: a character begins where the shortest form of one stands.
func decode(b []byte) (list []int, at int, e api.Errno) {
next:
	for at < len(b) {
		for size := 1; size <= min(4, len(b)-at); size++ {
			c := int(b[at]) & []int{0x7F, 0x1F, 0x0F, 0x07}[size-1]
			for _, more := range b[at+1 : at+size] {
				c = c<<6 | int(more)&0x3F
			}
			if scalar(c) && bytes.Equal(short(c), b[at:at+size]) {
				list, at = append(list, c), at+size
				continue next
			}
		}
		return nil, at, api.ErrUtf
	}
	return list, 0, api.OK
}

// far are numbers that are no character, some of which look like one in their lower bits.
func far() []int {
	return []int{
		math.MinInt, math.MinInt + 'a', math.MinInt32, -0x10FFFF, -'a', -2, -1,
		0xD800, 0xD801, 0xDBFF, 0xDC00, 0xDFFE, 0xDFFF,
		0x110000, 0x110001, 0x1FFFFF, 0x7FFFFFFF, 0x80000000, 0xFFFFFFFF, 1<<32 + 'a', 1<<32 + 32, 1 << 33, math.MaxInt,
	}
}

// edges are characters at the ends of what has so many bytes, of names, and of what is no character.
func edges() []int {
	return []int{
		0, 1, 7, 9, 10, 13, 15, 16, 31, 32, '(', 'x', 126, 127, 128, 159, 160, 228, 0x7FF, 0x800, 0xD7FF, 0xE000,
		0xFFFC, 0xFFFD, 0xFFFE, 0xFFFF, 0x10000, 0x1F600, 0x10FFFE, 0x10FFFF,
	}
}

// held tells if Decode answers of b what P2.1 says.
func held(t *testing.T, b []byte) {
	t.Helper()
	list, at, e := utf.Decode(b)
	if want, place, fault := decode(b); !slices.Equal(list, want) || at != place || e != fault {
		t.Errorf("Decode of % X: %v, %d, %d, not %v, %d, %d", b, list, at, e, want, place, fault)
	}
}

// P2.1

func TestScalar(t *testing.T) {
	for c := -70000; c < 0x120000; c++ {
		if utf.Scalar(c) != scalar(c) {
			t.Errorf("Scalar(%X): %v", c, utf.Scalar(c))
		}
	}
	for _, c := range far() {
		if utf.Scalar(c) {
			t.Errorf("%X is no character", c)
		}
	}
	for _, c := range edges() {
		if !utf.Scalar(c) {
			t.Errorf("%X is a character", c)
		}
	}
}

// Each character alone, there and back.
func TestEach(t *testing.T) {
	for c := range 0x110000 {
		if !scalar(c) {
			continue
		}
		b, e := utf.Encode(c)
		if e != api.OK || !bytes.Equal(b, short(c)) {
			t.Errorf("Encode of %X: % X, %d", c, b, e)
		}
		list, at, e := utf.Decode(b)
		if e != api.OK || at != 0 || !slices.Equal(list, []int{c}) {
			t.Errorf("Decode of % X: %v, %d, %d", b, list, at, e)
		}
	}
}

func TestDecode(t *testing.T) {
	for _, c := range []struct {
		text string
		list []int
		at   int
		e    api.Errno
	}{
		{"", nil, 0, api.OK},
		{"\xC3\xA4", []int{228}, 0, api.OK},
		{"\xC0\x80", nil, 0, api.ErrUtf},
		{"a\r\n\x00", []int{97, 13, 10, 0}, 0, api.OK},
		{"a\u00E4\u20AC\U0001F600b", []int{97, 228, 0x20AC, 0x1F600, 98}, 0, api.OK},
		{"\uFEFFa", []int{0xFEFF, 97}, 0, api.OK},
		{"\uFFFD\uFFFD", []int{0xFFFD, 0xFFFD}, 0, api.OK},
		{"a\u0301", []int{97, 0x301}, 0, api.OK},
		{"\x80", nil, 0, api.ErrUtf},
		{"ab\xBFc", nil, 2, api.ErrUtf},
		{"\u00E4\u20AC\U0001F600\xFFa\xFF", nil, 9, api.ErrUtf},
		{"\uFFFD\xFF", nil, 3, api.ErrUtf},
		{"a\xC1\xBF", nil, 1, api.ErrUtf},
		{"\xC2", nil, 0, api.ErrUtf},
		{"\xC2a", nil, 0, api.ErrUtf},
		{"\xC2\xC2\x80", nil, 0, api.ErrUtf},
		{"\xE0\x9F\xBF", nil, 0, api.ErrUtf},
		{"\xE0\xA0\x80", []int{0x800}, 0, api.OK},
		{"\xED\x9F\xBF", []int{0xD7FF}, 0, api.OK},
		{"ab\xED\xA0\x80", nil, 2, api.ErrUtf},
		{"\xED\xBF\xBF", nil, 0, api.ErrUtf},
		{"\xEE\x80\x80", []int{0xE000}, 0, api.OK},
		{"a\xE2\x82", nil, 1, api.ErrUtf},
		{"\xE2\x82(", nil, 0, api.ErrUtf},
		{"\xF0\x8F\xBF\xBF", nil, 0, api.ErrUtf},
		{"\xF0\x90\x80\x80", []int{0x10000}, 0, api.OK},
		{"\xF4\x8F\xBF\xBF", []int{0x10FFFF}, 0, api.OK},
		{"\xF4\x90\x80\x80", nil, 0, api.ErrUtf},
		{"a\xF0\x9F\x98", nil, 1, api.ErrUtf},
		{"\xF5\x80\x80\x80", nil, 0, api.ErrUtf},
		{"\xF8\x88\x80\x80\x80", nil, 0, api.ErrUtf},
		{"abc\xFE", nil, 3, api.ErrUtf},
	} {
		list, at, e := utf.Decode([]byte(c.text))
		if !slices.Equal(list, c.list) || at != c.at || e != c.e {
			t.Errorf("Decode of % X: %v, %d, %d", c.text, list, at, e)
		}
	}
	if list, at, e := utf.Decode(nil); len(list) != 0 || at != 0 || e != api.OK {
		t.Errorf("Decode of nil: %v, %d, %d", list, at, e)
	}
}

// All texts of one and two bytes, and of three and four bytes at their ends.
func TestDecodeBytes(t *testing.T) {
	for a := range 256 {
		held(t, []byte{byte(a)})
		for b := range 256 {
			held(t, []byte{byte(a), byte(b)})
		}
	}
	ends := []byte{0, 0x7F, 0x80, 0x8F, 0x90, 0x9F, 0xA0, 0xBF, 0xC0, 0xC1, 0xC2, 0xDF, 0xE0, 0xE1, 0xEC, 0xED, 0xEE, 0xEF, 0xF0, 0xF1, 0xF3, 0xF4, 0xF5, 0xF8, 0xFF}
	for _, a := range ends {
		for _, b := range ends {
			for _, c := range ends {
				held(t, []byte{a, b, c})
				for _, d := range ends {
					held(t, []byte{a, b, c, d})
				}
			}
		}
	}
}

// Forms that are too long, of no character, or cut short, behind characters and ahead of some.
func TestDecodeForms(t *testing.T) {
	for _, c := range append(edges(), 0xD800, 0xDBFF, 0xDC00, 0xDFFF, 0x110000, 0x1FFFFF) {
		for size := 1; size <= 6; size++ {
			b := form(c, size)
			for whole := range len(b) {
				for _, ahead := range []string{"", "a", "\u20AC"} {
					for _, behind := range []string{"", "a", "\u00E4", "\x80"} {
						held(t, slices.Concat([]byte(ahead), b[:whole+1], []byte(behind)))
					}
				}
			}
		}
	}
}

func TestDecodeLarge(t *testing.T) {
	most := bytes.Repeat([]byte{'a'}, api.MaxText)
	if list, at, e := utf.Decode(most); len(list) != api.MaxText || at != 0 || e != api.OK {
		t.Errorf("MaxText bytes: %d, %d, %d", len(list), at, e)
	}
	wide := bytes.Repeat([]byte("\u00E4"), api.MaxText/2)
	if list, at, e := utf.Decode(wide); len(list) != api.MaxText/2 || list[api.MaxText/2-1] != 228 || at != 0 || e != api.OK {
		t.Errorf("MaxText bytes of two a character: %d, %d, %d", len(list), at, e)
	}
	for _, b := range [][]byte{append(most, 'a'), append(most, 0xFF), append([]byte{0xFF}, most...), append(wide, wide...)} {
		if list, at, e := utf.Decode(b); len(list) != 0 || at != 0 || e != api.ErrLarge {
			t.Errorf("%d bytes: %d, %d, %d", len(b), len(list), at, e)
		}
	}
	most[api.MaxText-1] = 0xC3
	if list, at, e := utf.Decode(most); len(list) != 0 || at != api.MaxText-1 || e != api.ErrUtf {
		t.Errorf("MaxText bytes, the last one cut short: %d, %d, %d", len(list), at, e)
	}
}

func TestEncode(t *testing.T) {
	if b, e := utf.Encode(); len(b) != 0 || e != api.OK {
		t.Errorf("Encode of nothing: % X, %d", b, e)
	}
	if b, e := utf.Encode(edges()...); e != api.OK || !slices.Equal(b, slices.Concat(forms(edges())...)) {
		t.Errorf("Encode of %v: % X, %d", edges(), b, e)
	}
	for _, c := range far() {
		for _, list := range [][]int{{c}, {c, 'a'}, {'a', c}, {'a', c, 'b'}, {c, c}} {
			if b, e := utf.Encode(list...); len(b) != 0 || e != api.ErrArg {
				t.Errorf("Encode of %v: % X, %d", list, b, e)
			}
		}
	}
	many := slices.Repeat([]int{0x10FFFF}, api.MaxText) // a text may be longer than Decode takes
	if b, e := utf.Encode(many...); len(b) != 4*api.MaxText || e != api.OK {
		t.Errorf("Encode of %d characters: %d bytes, %d", len(many), len(b), e)
	}
}

// forms are the shortest forms of characters.
func forms(list []int) (all [][]byte) {
	for _, c := range list {
		all = append(all, short(c))
	}
	return all
}

// P2.2

func TestBlankAndEnds(t *testing.T) {
	blank, ends := []int{9, 10, 13, 32}, []int{9, 10, 13, 32, 34, 39, 40, 41, 44, 59, 96}
	ask := func(c int) {
		if utf.Blank(c) != slices.Contains(blank, c) {
			t.Errorf("Blank(%X): %v", c, utf.Blank(c))
		}
		if utf.Ends(c) != slices.Contains(ends, c) {
			t.Errorf("Ends(%X): %v", c, utf.Ends(c))
		}
	}
	for c := -1000; c < 0x110010; c++ {
		ask(c)
	}
	for _, c := range append(blank, ends...) {
		ask(1<<8 + c)
		ask(1<<32 + c)
		ask(math.MinInt + c)
		ask(math.MaxInt - c)
	}
	if utf.Ends('?') { // that of the chapter's sentence is none of its list
		t.Error("a word does not end at a question mark")
	}
}

// P2.3

// called is what P2.3 says of c's name.
func called(c int) string {
	switch c {
	case 32:
		return "space"
	case 10:
		return "newline"
	case 9:
		return "tab"
	case 13:
		return "return"
	case 0:
		return "null"
	case 127:
		return "delete"
	}
	if c < 32 {
		return "x" + strings.Split("0 1 2 3 4 5 6 7 8 9 a b c d e f 10 11 12 13 14 15 16 17 18 19 1a 1b 1c 1d 1e 1f", " ")[c]
	}
	return string(short(c))
}

func TestName(t *testing.T) {
	for c := range 0x110000 {
		if !scalar(c) {
			continue
		}
		s, e := utf.Name(c)
		if e != api.OK || s != called(c) {
			t.Errorf("Name(%X): %q, %d, not %q", c, s, e, called(c))
		}
		if back, ok := utf.Named(s); !ok || back != c {
			t.Errorf("Named(%q): %X, %v, not %X", s, back, ok, c)
		}
		if back, ok := utf.Named(string(short(c))); !ok || back != c {
			t.Errorf("Named of the character %X itself: %X, %v", c, back, ok)
		}
	}
	for _, c := range far() {
		if s, e := utf.Name(c); s != "" || e != api.ErrArg {
			t.Errorf("Name(%X): %q, %d", c, s, e)
		}
	}
}

func TestNamed(t *testing.T) {
	for _, c := range []struct {
		s    string
		want int
	}{
		{"space", 32}, {"newline", 10}, {"tab", 9}, {"return", 13}, {"null", 0}, {"delete", 127},
		{" ", 32}, {"\n", 10}, {"\t", 9}, {"\r", 13}, {"\x00", 0}, {"\x7F", 127}, {"\x01", 1},
		{"x", 'x'}, {"X", 'X'}, {"s", 's'}, {"0", '0'}, {"(", '('}, {"\\", '\\'}, {"\u00E4", 228}, {"\uFFFD", 0xFFFD}, {"\U0010FFFF", 0x10FFFF},
		{"x41", 65}, {"x041", 65}, {"x000041", 65}, {"x0", 0}, {"x00", 0}, {"x000000", 0}, {"x1", 1}, {"x1f", 31}, {"x1F", 31},
		{"xa", 10}, {"xA", 10}, {"xaF", 0xAF}, {"xAf", 0xAF}, {"xabcdef", -1}, {"x10abcd", 0x10ABCD}, {"x10ABCD", 0x10ABCD}, {"x0e9f", 0xE9F},
		{"xD7FF", 0xD7FF}, {"xd800", -1}, {"xDBFF", -1}, {"xdc00", -1}, {"xDFFF", -1}, {"xe000", 0xE000},
		{"xffff", 0xFFFF}, {"x10000", 0x10000}, {"x10ffff", 0x10FFFF}, {"x110000", -1}, {"xffffff", -1}, {"xFFFFFF", -1},
		{"x0000041", -1}, {"x0000000", -1}, {"x010ffff", -1}, {"x100000041", -1}, {"x10000000000000041", -1},
		{"", -1}, {"aa", -1}, {"xx", -1}, {"xx41", -1}, {"xg", -1}, {"xG1", -1}, {"x4g", -1}, {"x41 ", -1}, {" x41", -1}, {"x 41", -1}, {"x4 1", -1},
		{"x+1", -1}, {"x-1", -1}, {"x4_1", -1}, {"x0x41", -1}, {"x4.1", -1}, {"x41h", -1}, {"x/", -1}, {"x:", -1}, {"x@", -1}, {"x`", -1},
		{"X41", -1}, {"u41", -1}, {"41", -1}, {"0x41", -1}, {"#x41", -1}, {"\\x41", -1}, {"x\uFF14\uFF11", -1}, {"x\u0664", -1}, {"x4\u0301", -1}, {"x\x00", -1},
		{"Space", -1}, {"SPACE", -1}, {"spac", -1}, {"spaces", -1}, {"space ", -1}, {" space", -1}, {"space\x00", -1}, {"nul", -1}, {"linefeed", -1}, {"escape", -1}, {"spacetab", -1},
		{"  ", -1}, {"\r\n", -1}, {"a\u0301", -1}, {"\uFEFFa", -1}, {"\u00E4\u00E4", -1},
		{"\xFF", -1}, {"\x80", -1}, {"\xC3", -1}, {"\xE2\x82", -1}, {"\xC0\x80", -1}, {"\xED\xA0\x80", -1}, {"\xF4\x90\x80\x80", -1}, {"\xF0\x9F\x98", -1},
		{"a\xFF", -1}, {"\xFFa", -1}, {"x\xFF", -1}, {"x4\xFF", -1}, {"x\xC3", -1}, {"space\xFF", -1}, {"\xC3\xA4\xFF", -1},
		{strings.Repeat("x", 1<<20), -1}, {"x" + strings.Repeat("0", 1<<20) + "41", -1},
	} {
		n, ok := utf.Named(c.s)
		if c.want < 0 && (ok || n != 0) || c.want >= 0 && (!ok || n != c.want) {
			t.Errorf("Named(%.40q): %X, %v, not %X", c.s, n, ok, c.want)
		}
	}
}

// digit is the value of a hexadecimal digit; -1 of what is none.
func digit(b byte) int {
	switch {
	case b >= '0' && b <= '9':
		return int(b) - '0'
	case b >= 'a' && b <= 'f':
		return int(b) - 'a' + 10
	case b >= 'A' && b <= 'F':
		return int(b) - 'A' + 10
	}
	return -1
}

// Each text of x and one or two bytes, and each number in six digits, small and not.
func TestNamedDigits(t *testing.T) {
	for a := range 256 {
		high := digit(byte(a))
		if n, ok := utf.Named(string([]byte{'x', byte(a)})); ok != (high >= 0) || n != max(0, high) {
			t.Errorf("Named of x, %X: %X, %v", a, n, ok)
		}
		for b := range 256 {
			want, low := 0, digit(byte(b))
			if high >= 0 && low >= 0 {
				want = high*16 + low
			}
			if n, ok := utf.Named(string([]byte{'x', byte(a), byte(b)})); ok != (high >= 0 && low >= 0) || n != want {
				t.Errorf("Named of x, %X, %X: %X, %v", a, b, n, ok)
			}
		}
	}
	for c := 0; c < 1<<24; c += 251 {
		small := make([]byte, 6)
		for i := range small {
			small[i] = "0123456789abcdef"[c>>(20-4*i)&15]
		}
		for _, s := range []string{"x" + string(small), "x" + strings.ToUpper(string(small))} {
			if n, ok := utf.Named(s); ok != scalar(c) || ok && n != c || !ok && n != 0 {
				t.Errorf("Named(%q): %X, %v", s, n, ok)
			}
		}
	}
}

// R4: what is handed in, and its spare room, is not changed, and what is answered is new memory.
func TestMemory(t *testing.T) {
	for _, text := range []string{"", "abc", "\u00E4\u20AC\U0001F600", "ab\xFF", "\xC3"} {
		all := []byte(text + "spare room")
		before := slices.Clone(all)
		b := all[:len(text)]
		list, _, _ := utf.Decode(b)
		again, _, _ := utf.Decode(b)
		whole := slices.Clone(again)
		clear(list[:cap(list)])
		if !bytes.Equal(all, before) || !slices.Equal(again, whole) {
			t.Errorf("Decode of %q changes what it was given, or answered", text)
		}
	}
	for _, list := range [][]int{{}, {97, 98}, {228, 0x20AC, 0x1F600}, {97, -1}, {0xD800}} {
		all := append(slices.Clone(list), 1, 2, 3, 4)
		before := slices.Clone(all)
		b, _ := utf.Encode(all[:len(list)]...)
		again, _ := utf.Encode(all[:len(list)]...)
		whole := slices.Clone(again)
		clear(b[:cap(b)])
		if !slices.Equal(all, before) || !bytes.Equal(again, whole) {
			t.Errorf("Encode of %v changes what it was given, or answered", list)
		}
	}
}

// R5: the same calls have the same answers, whatever was called between.
func TestAgain(t *testing.T) {
	for range 2 {
		held(t, []byte("a\u00E4\xFF"))
		held(t, []byte("a\u00E4"))
		if b, e := utf.Encode(228, -1); b != nil || e != api.ErrArg {
			t.Errorf("% X, %d", b, e)
		}
		if b, e := utf.Encode(228); string(b) != "\u00E4" || e != api.OK {
			t.Errorf("% X, %d", b, e)
		}
		if n, ok := utf.Named("nope"); n != 0 || ok {
			t.Errorf("%d, %v", n, ok)
		}
		if n, ok := utf.Named("null"); n != 0 || !ok {
			t.Errorf("%d, %v", n, ok)
		}
	}
}
