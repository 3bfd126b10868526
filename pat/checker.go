package pat

import (
	"slices"

	"marginalia/api"
	"marginalia/ident"
	"marginalia/stx"
)

// checker makes shapes of patterns, and gathers the variables in them.
type checker struct {
	literals ident.Finder
	vars     []api.Bind
}

// check answers the shape of a whole pattern.
func (c *checker) check(pattern api.Stx, literals []api.Stx) (*shape, api.Errno) {
	strange := func(x api.Stx) bool { return !stx.Ident(x) }
	flat, e := stx.Flat(pattern)
	if e != api.OK || slices.ContainsFunc(literals, strange) {
		return nil, api.ErrForm
	}
	c.literals = ident.Of(literals...)
	whole, ok := c.shape(flat, 0)
	if !ok || c.twice() {
		return nil, api.ErrSyntax
	}
	return &whole, api.OK
}

// shape answers the shape of p, which is flat and stands behind so many ellipses; false, if it may not be. An ellipsis has none: where it may stand, nobody asks for its shape.
func (c *checker) shape(p api.Stx, depth int) (shape, bool) {
	switch {
	case stx.Compound(p):
		return c.group(p, depth)
	case p.Kind != api.Symbol:
		return shape{role: leaf, piece: p}, true
	case c.literal(p):
		return shape{role: literal, piece: p}, true
	case c.ellipsis(p):
		return shape{}, false
	case p.Text == "_":
		return shape{role: wild}, true
	}
	c.vars = append(c.vars, api.Bind{Name: p, Depth: depth})
	return shape{role: variable, vars: 1}, true
}

// group answers the shape of p, which is of a kind that has pieces in it.
func (c *checker) group(p api.Stx, depth int) (shape, bool) {
	s := shape{role: group, kind: p.Kind, many: none}
	parts := p.List
	if at := slices.IndexFunc(parts, c.ellipsis); at > 0 && !isTail(p, at) {
		s.many, parts = at-1, slices.Concat(parts[:at], parts[at+1:])
	}
	for i, in := range parts {
		deep := depth
		if i == s.many {
			deep++
		}
		part, ok := c.shape(in, deep)
		if !ok {
			return shape{}, false
		}
		s.parts, s.vars = append(s.parts, part), s.vars+part.vars
	}
	return s, true
}

// literal tells if the Symbol id is Bound as one of the literals.
func (c *checker) literal(id api.Stx) bool {
	_, found := c.literals.Find(id)
	return found
}

// ellipsis tells if p, which is flat, is one.
func (c *checker) ellipsis(p api.Stx) bool {
	return p.Kind == api.Symbol && p.Text == "..." && !c.literal(p)
}

// twice tells if two of the variables are Bound as one another.
func (c *checker) twice() bool {
	var names []api.Stx
	for _, v := range c.vars {
		names = append(names, v.Name)
	}
	return ident.Of(names...).Twice()
}

// isTail tells if what stands in x at that place stands behind its dot.
func isTail(x api.Stx, at int) bool { return x.Kind == api.Dotted && at == len(x.List)-1 }
