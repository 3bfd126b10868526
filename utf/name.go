package utf

import (
	"strings"
	"unicode/utf8"

	"marginalia/api"
)

// digits are the hexadecimal digits: a digit's value is how many stand ahead of it.
const digits = "0123456789abcdef"

// longest is how many hexadecimal digits a name has at most.
const longest = 6

// word is a character whose name is a word.
type word struct {
	name string
	char int
}

// words are all characters whose names are words.
var words = []word{
	{"space", 32},
	{"newline", 10},
	{"tab", 9},
	{"return", 13},
	{"null", 0},
	{"delete", 127},
}

// Name answers what c is called.
func Name(c int) (string, api.Errno) {
	if !Scalar(c) {
		return "", api.ErrArg
	}
	for _, w := range words {
		if w.char == c {
			return w.name, api.OK
		}
	}
	if c < 32 {
		high, low := c/16, c%16
		return "x" + strings.TrimLeft(digits[high:high+1]+digits[low:low+1], "0"), api.OK
	}
	return string(rune(c)), api.OK
}

// Named answers the character that s is a name of; false, if there is none.
func Named(s string) (int, bool) {
	for _, w := range words {
		if w.name == s {
			return w.char, true
		}
	}
	if c, size := utf8.DecodeRuneInString(s); size == len(s) && !broken(c, size) {
		return int(c), true
	}
	text, ok := strings.CutPrefix(s, "x")
	if !ok {
		return 0, false
	}
	return numbered(text)
}

// numbered answers the character whose number the hexadecimal digits of s are; false, if there is none.
func numbered(s string) (int, bool) {
	if s == "" || len(s) > longest {
		return 0, false
	}
	c := 0
	for i := range len(s) {
		ahead, _, ok := strings.Cut(digits, strings.ToLower(s[i:i+1]))
		if !ok {
			return 0, false
		}
		c = c*16 + len(ahead)
	}
	if !Scalar(c) {
		return 0, false
	}
	return c, true
}
