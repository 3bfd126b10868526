package tmpl

import (
	"slices"

	"marginalia/api"
	"marginalia/ident"
	"marginalia/stx"
)

// known is what a template's identifiers may be: the Names of binds that are sound.
type known struct {
	binds []api.Bind
	names ident.Finder
}

// knownOf answers what is known of these binds; false, if they are not sound.
func knownOf(binds []api.Bind) (known, bool) {
	var names []api.Stx
	for _, b := range binds {
		if !sound(b) {
			return known{}, false
		}
		names = append(names, b.Name)
	}
	k := known{binds, ident.Of(names...)}
	return k, !k.names.Twice()
}

// sound tells if b is a bind that may be.
func sound(b api.Bind) bool {
	return stx.Ident(b.Name) && b.Depth >= 0 && b.Depth <= api.MaxDepth && soundTree(b.Tree, b.Depth)
}

// soundTree tells if the tree is one that a bind of that Depth may have.
func soundTree(tree api.Tree, depth int) bool {
	if depth == 0 {
		return !tree.Many && stx.Sound(tree.One)
	}
	return tree.Many && !slices.ContainsFunc(tree.All, func(in api.Tree) bool { return !soundTree(in, depth-1) })
}
