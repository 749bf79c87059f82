package ere

import "fieldfare/api"

// list is a list of parts, told by its memory: one that stands at many places is gone through once.
type list struct {
	first *api.Part
	size  int
}

// level is a list that is being gone through: its parts, how many of them are told, and their sum.
type level struct {
	parts []api.Part
	told  int
	sum   int
}

// fold is what tell tells of a part, from the part and the sum of what it tells of those in it. Parts may be nested deeper than calls may be, so that the levels stand in a list.
func fold(p api.Part, tell func(p *api.Part, below int) int) int {
	sums := map[list]int{}
	sum := func(l []api.Part) (int, bool) { // false: it isn't there yet
		if len(l) == 0 {
			return 0, true
		}
		n, ok := sums[listOf(l)]
		return n, ok
	}
	levels := []level{{parts: []api.Part{p}}}
	for {
		top := &levels[len(levels)-1]
		if top.told < len(top.parts) {
			part := &top.parts[top.told]
			if below, ok := sum(partsOf(part)); ok {
				top.sum += tell(part, below)
				top.told++
			} else {
				levels = append(levels, level{parts: part.L})
			}
			continue
		}
		if len(levels) == 1 {
			return top.sum
		}
		sums[listOf(top.parts)] = top.sum
		levels = levels[:len(levels)-1]
	}
}

// listOf tells a list that has elements.
func listOf(l []api.Part) list {
	return list{&l[0], len(l)}
}

// partsOf is the parts in a part: of a kind without parts none, whatever it has in L.
func partsOf(p *api.Part) []api.Part {
	switch p.Kind {
	case api.PartRow, api.PartOr, api.PartRepeat:
		return p.L
	}
	return nil
}
