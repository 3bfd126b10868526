package print

import (
	"strconv"
	"strings"

	"marginalia/api"
	"marginalia/num"
	"marginalia/utf"
)

// printer is the text of what was printed so far.
type printer struct{ strings.Builder }

// datum prints d, which is sound.
func (p *printer) datum(d api.Datum) {
	switch d.Kind {
	case api.List, api.Dotted:
		p.list(d)
	case api.Vector:
		p.WriteByte('#')
		p.list(d)
	case api.Symbol:
		p.WriteString(d.Text)
	case api.String:
		p.quoted(d.Text)
	case api.Char:
		p.char(d.Text)
	case api.Integer:
		p.WriteString(num.Text(d.Num))
	case api.True:
		p.WriteString("#t")
	case api.False:
		p.WriteString("#f")
	case api.Void:
		p.strange("void")
	case api.Other:
		p.strange(d.Text)
	}
}

// list prints what stands in d, between parentheses.
func (p *printer) list(d api.Datum) {
	p.WriteByte('(')
	last := len(d.List) - 1
	for i, in := range d.List {
		if i > 0 {
			p.WriteByte(' ')
		}
		if i == last && d.Kind == api.Dotted {
			p.WriteString(". ")
		}
		p.datum(in)
	}
	p.WriteByte(')')
}

// char prints the character whose UTF-8 is s.
func (p *printer) char(s string) {
	list, _, _ := utf.Decode([]byte(s))
	name, _ := utf.Name(list[0]) // what is sound has just one
	p.WriteString(`#\` + name)
}

// strange prints what can't be read again.
func (p *printer) strange(s string) {
	p.WriteString("#<")
	p.WriteString(s)
	p.WriteByte('>')
}

// quoted prints s between quotes.
func (p *printer) quoted(s string) {
	p.WriteByte('"')
	for i := range len(s) { // by bytes, since no character of more than one is escaped, and what is no UTF-8 has no characters
		p.escaped(s[i])
	}
	p.WriteByte('"')
}

// escaped prints a byte of a string.
func (p *printer) escaped(c byte) {
	switch {
	case c == '\\' || c == '"':
		p.WriteByte('\\')
		p.WriteByte(c)
	case c == '\n':
		p.WriteString(`\n`)
	case c == '\t':
		p.WriteString(`\t`)
	case c == '\r':
		p.WriteString(`\r`)
	case c < 32 || c == 127:
		p.WriteString(`\x` + strconv.FormatInt(int64(c), 16) + ";")
	default:
		p.WriteByte(c)
	}
}
