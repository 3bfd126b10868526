package read

import (
	"marginalia/api"
	"marginalia/token"
)

// reader takes the words of a text, one by one.
type reader struct {
	depth int    // how deep a datum may be
	deep  int    // how deep the innermost of what is open is
	count int    // how many datums have begun
	open  []part // what has no end yet: the text itself, and the innermost one last
}

// part is what has no end yet: a text, a list, a vector, or an Abbrev or Skip ahead of its datum.
type part struct {
	word token.Token // what it begins with; of no kind, if it is the text
	list []api.Datum
	dot  int // how many datums stand ahead of its dot; 0, if it has none
}

// take takes the next word, and answers what is wrong with it.
func (r *reader) take(w token.Token) api.Errno {
	switch w.Kind {
	case token.Close:
		return r.end()
	case token.Dot:
		return r.dot()
	case token.Skip: // ahead of what is skipped, it may stand where a datum may not
		r.push(w)
		return api.OK
	}
	return r.begin(w)
}

// end takes a Close.
func (r *reader) end() api.Errno {
	p := r.top()
	if p.word.Kind != token.Open && p.word.Kind != token.OpenV || p.lacks() {
		return api.ErrRead
	}
	whole := r.pop()
	r.add(whole.datum())
	return api.OK
}

// dot takes a Dot.
func (r *reader) dot() api.Errno {
	p := r.top()
	if p.word.Kind != token.Open || len(p.list) == 0 || p.dot > 0 {
		return api.ErrRead
	}
	p.dot = len(p.list)
	return api.OK
}

// begin takes a word with which a datum begins.
func (r *reader) begin(w token.Token) api.Errno {
	size := 1
	if w.Kind == token.Abbrev {
		size = 2 // the list, and the symbol in it
	}
	switch {
	case r.top().full():
		return api.ErrRead
	case r.deep+size > r.depth:
		return api.ErrDeep
	case r.count+size > api.MaxNodes:
		return api.ErrLarge
	}
	r.count += size
	if w.Kind == token.Leaf {
		r.add(w.Datum)
	} else {
		r.push(w)
	}
	return api.OK
}

// add puts a whole datum where it stands, behind Abbrevs, or is skipped.
func (r *reader) add(d api.Datum) {
	for r.top().word.Kind == token.Abbrev {
		d = abbreviated(r.pop().word, d)
	}
	if r.top().word.Kind == token.Skip {
		r.pop()
		return
	}
	p := r.top()
	p.list = append(p.list, d)
}

// top answers the innermost of what is open.
func (r *reader) top() *part { return &r.open[len(r.open)-1] }

// push opens what begins with w.
func (r *reader) push(w token.Token) {
	r.open = append(r.open, part{word: w})
	if w.Kind != token.Skip { // what is skipped is as deep as what stands around it makes it
		r.deep++
	}
}

// pop takes the innermost of what is open away, and answers it.
func (r *reader) pop() part {
	p := *r.top()
	r.open = r.open[:len(r.open)-1]
	if p.word.Kind != token.Skip {
		r.deep--
	}
	return p
}

// lacks tells if nothing stands behind the dot of p yet.
func (p *part) lacks() bool { return p.dot > 0 && len(p.list) == p.dot }

// full tells if the last one of p stands behind its dot already.
func (p *part) full() bool { return p.dot > 0 && len(p.list) > p.dot }

// datum answers the list or vector that p is, now that it has its end.
func (p *part) datum() api.Datum {
	d := api.Datum{Kind: api.List, List: p.list, At: p.word.At}
	switch {
	case p.word.Kind == token.OpenV:
		d.Kind = api.Vector
	case p.dot > 0:
		d.Kind, d.List = joined(p.list[:p.dot], p.list[p.dot])
	}
	return d
}

// joined answers the kind of a list with a dot, and what stands in it: first, and behind the dot last.
func joined(first []api.Datum, last api.Datum) (int, []api.Datum) {
	if last.Kind == api.List || last.Kind == api.Dotted {
		return last.Kind, append(first, last.List...)
	}
	return api.Dotted, append(first, last)
}

// abbreviated answers the list that an Abbrev and a datum are.
func abbreviated(w token.Token, d api.Datum) api.Datum {
	name := api.Datum{Kind: api.Symbol, Text: w.Text, At: w.At}
	return api.Datum{Kind: api.List, List: []api.Datum{name, d}, At: w.At}
}
