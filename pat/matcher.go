package pat

import (
	"slices"

	"marginalia/api"
	"marginalia/rib"
	"marginalia/stx"
)

// matcher holds the shapes of patterns that it checks against pieces.
type matcher struct {
	checker
	ribs *rib.Ribs
}

// match answers the variables of the pattern whose shape s is, each with its Tree; false, if it does not match x.
func (m *matcher) match(s *shape, x api.Stx) ([]api.Bind, bool) {
	if !m.fits(s, x) { // no tree is made ahead of that: of what does not fit in the end they could be very many
		return nil, false
	}
	for i, tree := range s.trees(x) {
		m.vars[i].Tree = tree
	}
	return m.vars, true
}

// fits tells if s matches x.
func (m *matcher) fits(s *shape, x api.Stx) bool {
	switch s.role {
	case leaf:
		return stx.Same(s.piece, x)
	case literal:
		return m.ribs.Free(s.piece, x)
	case group:
		rows, ok := s.rows(x)
		return ok && !slices.ContainsFunc(rows, m.misfits)
	}
	return true
}

// misfits tells if the row has a piece that its shape does not match.
func (m *matcher) misfits(r row) bool {
	return slices.ContainsFunc(r.pieces, func(x api.Stx) bool { return !m.fits(r.shape, x) })
}
