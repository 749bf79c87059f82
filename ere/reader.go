package ere

import (
	"fieldfare/api"
	"fieldfare/charset"
)

// reader reads an expression from the left: its bytes, the place of the next one, and how many ( are open there.
type reader struct {
	b    []byte
	at   int
	open int
}

// expression reads branches, up to the end or to a ) that isn't theirs.
func (r *reader) expression() (api.Part, error) {
	var branches []api.Part
	for {
		p, e := r.branch()
		if e != nil {
			return api.Part{}, e
		}
		branches = append(branches, p)
		if !is(r.b, r.at, '|') {
			return together(api.PartOr, branches), nil
		}
		r.at++
	}
}

// branch reads pieces, up to the end, a | or a ).
func (r *reader) branch() (api.Part, error) {
	var pieces []api.Part
	for r.at < len(r.b) && !is(r.b, r.at, '|') && !is(r.b, r.at, ')') {
		p, e := r.piece()
		if e != nil {
			return api.Part{}, e
		}
		pieces = append(pieces, p)
	}
	return together(api.PartRow, pieces), nil
}

// together is a part of parts; of one it is that one, and of none nothing.
func together(kind int, l []api.Part) api.Part {
	switch len(l) {
	case 0:
		return api.Part{Kind: api.PartNone}
	case 1:
		return l[0]
	}
	return api.Part{Kind: kind, L: l}
}

// piece reads an atom, and the signs behind it.
func (r *reader) piece() (api.Part, error) {
	p, e := r.atom()
	if e != nil {
		return api.Part{}, e
	}
	for signs := 0; ; signs++ {
		least, most, size, e := r.sign()
		if e != nil {
			return api.Part{}, e
		}
		if size == 0 {
			return p, nil
		}
		if signs == maxSigns {
			return api.Part{}, fault(r.at, api.ErrDeep)
		}
		p = api.Part{Kind: api.PartRepeat, Min: least, Max: most, L: []api.Part{p}}
		r.at += size
	}
}

// sign is the bounds of the sign that is next, and how many bytes it has: 0, if none is next.
func (r *reader) sign() (least, most, size int, e error) {
	if r.at == len(r.b) {
		return 0, 0, 0, nil
	}
	switch r.b[r.at] {
	case '+':
		least = 1
		fallthrough
	case '*':
		return least, noEnd, 1, nil
	case '?':
		return 0, 1, 1, nil
	case '{':
		return interval(r.b, r.at)
	}
	return 0, 0, 0, nil
}

// atom reads an atom, which isn't ahead of a | or a ). A sign is here only if its branch has no atom ahead of it: a piece takes all signs behind its own.
func (r *reader) atom() (api.Part, error) {
	c := r.b[r.at]
	switch c {
	case '*', '+', '?':
		return api.Part{}, fault(r.at, api.ErrForm)
	case '(':
		return r.group()
	case '[':
		return r.bracket()
	case '\\':
		return r.escape()
	}
	r.at++
	switch c {
	case '.':
		return setPart(charset.Not(api.Set{})), nil
	case '^':
		return api.Part{Kind: api.PartBegin}, nil
	case '$':
		return api.Part{Kind: api.PartEnd}, nil
	}
	return setPart(charset.Range(c, c)), nil
}

// group reads (, an expression, and ).
func (r *reader) group() (api.Part, error) {
	if r.open == api.MaxDeep {
		return api.Part{}, fault(r.at, api.ErrDeep)
	}
	r.open++
	r.at++
	p, e := r.expression()
	if e != nil {
		return api.Part{}, e
	}
	if !is(r.b, r.at, ')') {
		return api.Part{}, fault(len(r.b), api.ErrEnd)
	}
	r.open--
	r.at++
	return p, nil
}

// bracket reads a bracket expression.
func (r *reader) bracket() (api.Part, error) {
	s, n, e := charset.Bracket(r.b, r.at)
	if e != nil {
		return api.Part{}, e
	}
	r.at += n
	return setPart(s), nil
}

// escape reads a \ and the byte behind it.
func (r *reader) escape() (api.Part, error) {
	if r.at+1 == len(r.b) {
		return api.Part{}, fault(len(r.b), api.ErrEnd)
	}
	c := charset.Escape(r.b[r.at+1])
	r.at += 2
	return setPart(charset.Range(c, c)), nil
}

// setPart is the part of one byte of a set.
func setPart(s api.Set) api.Part {
	return api.Part{Kind: api.PartSet, Set: s}
}

// is tells whether a byte stands at a place, which may be the end.
func is(b []byte, at int, c byte) bool {
	return at < len(b) && b[at] == c
}
