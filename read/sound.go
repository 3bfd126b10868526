package read

import (
	"marginalia/api"
	"marginalia/num"
	"marginalia/token"
	"marginalia/utf"
)

// checker looks through a datum; it gives up at the first datum that is one too many, so that datums which stand in one another without end have one.
type checker struct {
	count int // how many datums it has looked at
}

// sound tells if d, which stands that deep, is sound.
func (c *checker) sound(d api.Datum, deep int) bool {
	c.count++
	if deep > api.MaxDepth || c.count > api.MaxNodes {
		return false
	}
	switch d.Kind {
	case api.List, api.Dotted, api.Vector:
		return d.Text == "" && blank(d.Num) && ended(d) && c.all(d.List, deep+1)
	case api.Integer:
		return d.Text == "" && num.Sound(d.Num) && len(d.List) == 0
	}
	return written(d.Kind, d.Text) && blank(d.Num) && len(d.List) == 0
}

// all tells if all of list, which stand that deep, are sound.
func (c *checker) all(list []api.Datum, deep int) bool {
	for _, d := range list {
		if !c.sound(d, deep) {
			return false
		}
	}
	return true
}

// ended tells if d, if it is Dotted, has what stands ahead of its dot and behind.
func ended(d api.Datum) bool {
	if d.Kind != api.Dotted {
		return true
	}
	n := len(d.List)
	return n >= 2 && d.List[n-1].Kind != api.List && d.List[n-1].Kind != api.Dotted
}

// blank tells if x is what a datum has that is no integer.
func blank(x api.Int) bool { return !x.Neg && len(x.Limbs) == 0 }

// written tells if a leaf of that kind, but an integer, may have that text.
func written(kind int, text string) bool {
	switch kind {
	case api.Symbol:
		d, ok := token.Atom(text)
		return ok && d.Kind == api.Symbol
	case api.String:
		n, ok := length(text)
		return ok && n <= api.MaxString
	case api.Char:
		n, ok := length(text)
		return ok && n == 1
	case api.True, api.False, api.Void:
		return text == ""
	}
	return kind == api.Other
}

// length answers how many characters s has; false, if it is no UTF-8, or longer than a text.
func length(s string) (int, bool) {
	list, _, e := utf.Decode([]byte(s))
	return len(list), e == api.OK
}
