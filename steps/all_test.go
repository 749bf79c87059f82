package steps_test

import (
	"testing"

	"fieldfare/api"
	"fieldfare/charset"
	"fieldfare/ere"
)

// This file holds Compile against a second compiler, which goes through each part at each of its places, and learns only behind the steps of a part where these end.

// spot is a place of a program that may be known later.
type spot struct{ at int }

// draft is a step whose places may be known later.
type draft struct {
	kind int
	set  api.Set
	x, y *spot
}

// bench is where a program is made.
type bench struct{ drafts []draft }

func (b *bench) next() *spot { return &spot{len(b.drafts) + 1} }

func (b *bench) fork(x, y *spot) {
	b.drafts = append(b.drafts, draft{kind: api.StepFork, x: x, y: y})
}

// lay makes the steps of a part, and tells what follows where that is.
func (b *bench) lay(p api.Part, follows *spot) {
	switch p.Kind {
	case api.PartSet:
		b.drafts = append(b.drafts, draft{kind: api.StepSet, set: p.Set, x: b.next()})
	case api.PartBegin:
		b.drafts = append(b.drafts, draft{kind: api.StepBegin, x: b.next()})
	case api.PartEnd:
		b.drafts = append(b.drafts, draft{kind: api.StepEnd, x: b.next()})
	case api.PartRow:
		for _, q := range p.L {
			b.lay(q, &spot{})
		}
	case api.PartOr:
		for _, q := range p.L[:len(p.L)-1] {
			others := &spot{}
			b.fork(b.next(), others)
			b.lay(q, &spot{})
			b.fork(follows, follows)
			others.at = len(b.drafts)
		}
		b.lay(p.L[len(p.L)-1], &spot{})
	case api.PartRepeat:
		for range p.Min {
			b.lay(p.L[0], &spot{})
		}
		for range p.Max - p.Min {
			b.fork(b.next(), follows)
			b.lay(p.L[0], &spot{})
		}
		if p.Max == -1 {
			top := &spot{len(b.drafts)}
			b.fork(b.next(), follows)
			b.lay(p.L[0], &spot{})
			b.fork(top, top)
		}
	}
	follows.at = len(b.drafts)
}

// again is what Compile is to tell of a part that is right.
func again(p api.Part) []api.Step {
	var b bench
	b.lay(p, &spot{})
	var l []api.Step
	for _, d := range b.drafts {
		s := api.Step{Kind: d.kind, Set: d.set, X: d.x.at}
		if d.y != nil {
			s.Y = d.y.at
		}
		l = append(l, s)
	}
	return append(l, api.Step{Kind: api.StepFound})
}

// agree tells whether Compile is right about a part that is right, and of which again doesn't make many more steps than there may be.
func agree(t *testing.T, p api.Part) {
	t.Helper()
	if want := again(p); len(want) > 4000 {
		fails(t, p, api.ErrLarge)
	} else {
		holds(t, p, want)
	}
}

// small are right parts of about so many parts: each kind in each, with few bounds.
func small(n int) []api.Part {
	if n == 1 {
		return []api.Part{none(), one('a'), begin(), row()}
	}
	var l []api.Part
	for _, p := range small(n - 1) {
		l = append(l, row(p), or(p), star(p), repeat(0, 0, p), maybe(p), repeat(1, 3, p), repeat(2, 2, p), repeat(2, -1, p))
	}
	for k := 1; k < n-1; k++ {
		for _, p := range small(k) {
			for _, q := range small(n - 1 - k) {
				l = append(l, row(p, q), or(p, q))
				if k == 1 {
					l = append(l, row(p, q, p), or(p, q, p), row(q, p, q))
				}
			}
		}
	}
	return l
}

func TestP51All(t *testing.T) {
	for n := 1; n <= 5; n++ {
		for _, p := range small(n) {
			agree(t, p)
			if t.Failed() {
				return
			}
		}
	}
}

// draw gives numbers that are as good as any, and the same ones each time; and parts, some of whose lists stand at many places.
type draw struct {
	state uint64
	lists [][]api.Part
}

func (d *draw) below(n int) int {
	d.state = d.state*6364136223846793005 + 1442695040888963407
	return int((d.state ^ d.state>>29) >> 33 % uint64(n))
}

// part is a right part, nested so deep at most.
func (d *draw) part(deep int) api.Part {
	kind := 2 + d.below(8)
	if deep <= 1 {
		kind = d.below(5)
	}
	switch kind {
	case 0:
		return none()
	case 1:
		return begin()
	case 2:
		return end()
	case 3, 4:
		from := d.below(256)
		return of(charset.Range(byte(from), byte(from+d.below(256-from))))
	}
	l := d.list(deep - 1)
	switch {
	case kind < 7:
		return row(l...)
	case kind < 8 && len(l) > 0:
		return or(l...)
	case len(l) == 0:
		return row()
	}
	least, more := d.below(4), d.below(3)
	if d.below(20) == 0 {
		least, more = d.below(256), 0
	}
	return repeat(least, []int{-1, least, least + more}[d.below(3)], l[d.below(len(l)):][:1]...)
}

// list is a list of parts; it may be one that was told, or a piece of it.
func (d *draw) list(deep int) []api.Part {
	if n := len(d.lists); n > 0 && d.below(5) == 0 {
		l := d.lists[d.below(n)]
		from := d.below(len(l))
		return l[from:][:d.below(len(l)-from+1)]
	}
	var l []api.Part
	for range 1 + d.below(4) {
		l = append(l, d.part(deep))
	}
	d.lists = append(d.lists, l)
	return l
}

func TestP51Drawn(t *testing.T) {
	d := draw{state: 1}
	few, some, many := 0, 0, 0
	for range 20000 {
		d.lists = nil
		p := d.part(7)
		n := below(p) + 1
		switch {
		case n > 4000:
			many++
			fails(t, p, api.ErrLarge)
		case n > 100:
			some++
			holds(t, p, again(p))
		default:
			few++
			holds(t, p, again(p))
		}
		if t.Failed() {
			return
		}
	}
	if few < 1000 || some < 1000 || many < 100 {
		t.Errorf("%d parts of few steps, %d of some, %d of many", few, some, many)
	}
}

// below is how many steps a part has, of any size.
func below(p api.Part) float64 {
	sum := 0.0
	for _, q := range p.L {
		sum += below(q)
	}
	switch p.Kind {
	case api.PartSet, api.PartBegin, api.PartEnd:
		return 1
	case api.PartOr:
		return sum + 2*float64(len(p.L)-1)
	case api.PartRepeat:
		if p.Max == -1 {
			return float64(p.Min)*sum + 1 + sum + 1
		}
		return float64(p.Min)*sum + float64(p.Max-p.Min)*(1+sum)
	}
	return sum
}

// TestP51Shared: a list may stand at many places, too many to go through it at each.
func TestP51Shared(t *testing.T) {
	nothing, much, wrong := none(), one('a'), odd()
	for i := range 1199 {
		nothing, much, wrong = row(nothing, nothing), row(much, much), row(wrong, wrong)
		holds(t, nothing, list(found()))
		if i < 11 {
			holds(t, much, again(much))
		} else {
			fails(t, much, api.ErrLarge)
		}
		fails(t, wrong, api.ErrForm)
		if t.Failed() {
			t.Fatal(i)
		}
	}
	for _, p := range []api.Part{nothing, much, wrong} {
		fails(t, row(p), api.ErrDeep)
		fails(t, star(p), api.ErrDeep)
		fails(t, or(none(), p), api.ErrDeep)
	}
}

// TestP51SharedAlike: parts that share a list, and are of other kinds, or have other bounds, or a piece of it.
func TestP51SharedAlike(t *testing.T) {
	l := []api.Part{one('a'), star(one('b')), or(one('c'), none())}
	var parts []api.Part
	for n := range 4 {
		for from := range 4 - n {
			parts = append(parts, row(l[from:from+n]...))
			if n > 0 {
				parts = append(parts, or(l[from:from+n]...))
			}
		}
	}
	for i := range l {
		for _, most := range []int{-1, 2, 3} {
			parts = append(parts, repeat(0, most, l[i:i+1]...), repeat(2, most, l[i:i+1]...))
		}
	}
	for _, p := range parts {
		for _, q := range parts {
			agree(t, row(p, q))
			agree(t, or(star(q), p, q))
			agree(t, repeat(2, 3, or(p, row(q, p))))
		}
	}
	agree(t, row(parts...))
	agree(t, or(parts...))
}

// TestP51SharedDeep: a list that is right at one place, and too deep at another.
func TestP51SharedDeep(t *testing.T) {
	under := func(levels int, p api.Part) api.Part {
		return nested(levels+1, p, func(p api.Part) api.Part { return or(p) })
	}
	shared := nested(600, one('a'), func(p api.Part) api.Part { return row(p) })
	most, more := under(599, shared), under(600, shared)
	holds(t, row(shared, most), list(set('a', 1), set('a', 2), found()))
	holds(t, row(most, shared), list(set('a', 1), set('a', 2), found()))
	for _, p := range []api.Part{row(shared, more), row(more, shared), row(shared, most, more), row(shared, more, odd()), row(star(shared), repeat(0, 0, more))} {
		fails(t, p, api.ErrDeep)
	}
	for _, p := range []api.Part{row(shared, odd(), more), row(odd(), more, shared), row(shared, most, odd())} {
		fails(t, p, api.ErrForm)
	}
	for _, p := range []api.Part{row(shared, none()), row(none(), shared), row(none(), shared, none())} { // the deepest one is first, last, or between
		holds(t, row(p, under(598, p)), list(set('a', 1), set('a', 2), found()))
		fails(t, row(p, under(599, p)), api.ErrDeep)
	}
	for range 10 { // lists in lists, each at many places
		shared = row(shared, shared, shared)
	}
	fails(t, nested(591, shared, star), api.ErrLarge)
	fails(t, nested(592, shared, star), api.ErrDeep)
	fails(t, row(shared, nested(592, shared, star), odd()), api.ErrDeep)
}

func FuzzCompile(f *testing.F) {
	for _, s := range []string{"", "a|b*", "(ab|c)+x{2,3}[^a].", "a{2,}{x", "((a*)+)?$", "(a{200}){200}", "(){255}", "^(|a){3,}$", "((a{0}|b)?){0,9}"} {
		f.Add(s)
	}
	f.Fuzz(func(t *testing.T, s string) {
		p, e := ere.Parse([]byte(s))
		if e != nil {
			return
		}
		if below(p)+1 > 4000 {
			fails(t, p, api.ErrLarge)
		} else if slowness(p) < 1e6 {
			holds(t, p, again(p))
		}
	})
}

// slowness is how often again goes through parts.
func slowness(p api.Part) float64 {
	sum := 1.0
	for _, q := range p.L {
		sum += slowness(q)
	}
	if p.Kind == api.PartRepeat {
		return sum * float64(max(p.Max, p.Min)+1)
	}
	return sum
}
