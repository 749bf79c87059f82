package steps

import "fieldfare/api"

// How much there may be of a part, beside api's limits.
const (
	maxLevels = 1200 // how deep parts may be nested
	maxTimes  = 255  // how many times a part may be asked for
)

// noEnd is the upper bound of what may come any number of times.
const noEnd = -1

// tooMany stands for every number of steps that is more than there may be.
const tooMany = api.MaxStates + 1

// shape is all that the steps of a part that has parts hang on; its list is told by its memory.
type shape struct {
	kind, least, most int
	first             *api.Part
	size              int
}

// extent is how many steps a part has, at most tooMany, and how many levels it has, its own too.
type extent struct{ steps, levels int }

// meter finds extents. It keeps those of parts that are right, so that a list that stands at many places is gone through once.
type meter map[shape]extent

// program is how many steps the program of a part has.
func (m meter) program(p *api.Part) (int, error) {
	x, e := m.part(p, 1)
	if e != nil {
		return 0, e
	}
	n := x.steps + 1 // behind all it is found
	if n > api.MaxStates {
		return 0, api.ErrLarge
	}
	return n, nil
}

// part is the extent of a part that stands at a level; or what is wrong first, the part ahead of its own ones.
func (m meter) part(p *api.Part, level int) (extent, error) {
	if level > maxLevels {
		return extent{}, api.ErrDeep
	}
	switch p.Kind {
	case api.PartNone:
		return extent{steps: 0, levels: 1}, nil
	case api.PartSet, api.PartBegin, api.PartEnd:
		return extent{steps: 1, levels: 1}, nil
	case api.PartRepeat:
		if len(p.L) > 1 || !bounded(p.Min, p.Max) {
			return extent{}, api.ErrForm
		}
		fallthrough // one without a part is as wrong as an or is
	case api.PartOr:
		if len(p.L) == 0 {
			return extent{}, api.ErrForm
		}
		fallthrough
	case api.PartRow:
		return m.whole(p, level)
	}
	return extent{}, api.ErrForm
}

// whole is the extent of a part, right by itself, that may have parts.
func (m meter) whole(p *api.Part, level int) (extent, error) {
	s := shapeOf(p)
	if x, ok := m[s]; ok {
		if level+x.levels-1 > maxLevels { // what is kept was right where it stood, so that nothing comes ahead of this
			return extent{}, api.ErrDeep
		}
		return x, nil
	}
	var below extent
	for i := range p.L {
		x, e := m.part(&p.L[i], level+1)
		if e != nil {
			return extent{}, e
		}
		below.steps += x.steps
		below.levels = max(below.levels, x.levels)
	}
	x := extent{steps: min(withForks(p, below.steps), tooMany), levels: below.levels + 1}
	m[s] = x
	return x, nil
}

// steps is how many steps a part has that was found right where it stands.
func (m meter) steps(p *api.Part) int {
	x, _ := m.part(p, 1) // no level is less deep
	return x.steps
}

// withForks is how many steps a part has whose parts have so many together.
func withForks(p *api.Part, below int) int {
	switch p.Kind {
	case api.PartOr:
		return below + 2*(len(p.L)-1)
	case api.PartRepeat:
		if p.Max == noEnd {
			return (p.Min+1)*below + 2
		}
		return p.Max*below + p.Max - p.Min
	}
	return below
}

// shapeOf is the shape of a part that may have parts.
func shapeOf(p *api.Part) shape {
	s := shape{kind: p.Kind, least: p.Min, most: p.Max, size: len(p.L)}
	if s.size > 0 {
		s.first = &p.L[0]
	}
	return s
}

// bounded tells whether the bounds of a repeat may be.
func bounded(least, most int) bool {
	if least < 0 || least > maxTimes {
		return false
	}
	return most == noEnd || most >= least && most <= maxTimes
}
