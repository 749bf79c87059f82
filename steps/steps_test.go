package steps_test

import (
	"errors"
	"fmt"
	"slices"
	"strings"
	"testing"

	"fieldfare/api"
	"fieldfare/charset"
	"fieldfare/ere"
	"fieldfare/steps"
)

// The tests put parts together by the functions below, and hold all three functions by holds and fails.

func none() api.Part             { return api.Part{} }
func begin() api.Part            { return api.Part{Kind: api.PartBegin} }
func end() api.Part              { return api.Part{Kind: api.PartEnd} }
func of(s api.Set) api.Part      { return api.Part{Kind: api.PartSet, Set: s} }
func one(c byte) api.Part        { return of(charset.Range(c, c)) }
func row(l ...api.Part) api.Part { return api.Part{Kind: api.PartRow, L: l} }
func or(l ...api.Part) api.Part  { return api.Part{Kind: api.PartOr, L: l} }
func star(p api.Part) api.Part   { return repeat(0, -1, p) }
func plus(p api.Part) api.Part   { return repeat(1, -1, p) }
func maybe(p api.Part) api.Part  { return repeat(0, 1, p) }
func odd() api.Part              { return api.Part{Kind: 7} }

func repeat(least, most int, l ...api.Part) api.Part {
	return api.Part{Kind: api.PartRepeat, Min: least, Max: most, L: l}
}

// copies is so many times a part.
func copies(n int, p api.Part) []api.Part {
	return slices.Repeat([]api.Part{p}, n)
}

// nested is a part that stands n levels deep, in parts that deepen makes.
func nested(n int, p api.Part, deepen func(p api.Part) api.Part) api.Part {
	for range n - 1 {
		p = deepen(p)
	}
	return p
}

func set(c byte, x int) api.Step    { return api.Step{Set: charset.Range(c, c), X: x} }
func fork(x, y int) api.Step        { return api.Step{Kind: api.StepFork, X: x, Y: y} }
func atBegin(x int) api.Step        { return api.Step{Kind: api.StepBegin, X: x} }
func atEnd(x int) api.Step          { return api.Step{Kind: api.StepEnd, X: x} }
func found() api.Step               { return api.Step{Kind: api.StepFound} }
func list(l ...api.Step) []api.Step { return l }

// shown is the beginning of a part, as text.
func shown(p api.Part) string { return told(p, 400) }

// whole is all of a part, as text.
func whole(p api.Part) string { return told(p, 1<<30) }

func told(p api.Part, most int) string {
	var s strings.Builder
	var tell func(p api.Part)
	tell = func(p api.Part) {
		if s.Len() > most {
			return
		}
		fmt.Fprintf(&s, "%d(%x %d %d", p.Kind, p.Set, p.Min, p.Max)
		for i := 0; i < len(p.L) && s.Len() <= most; i++ {
			tell(p.L[i])
		}
		s.WriteString(")")
	}
	tell(p)
	return s.String()
}

// holds tells whether a part has a program, and no other.
func holds(t *testing.T, p api.Part, want []api.Step) {
	t.Helper()
	l, e := steps.Compile(p)
	if e != nil {
		t.Errorf("%s: %v", shown(p), e)
		return
	}
	if !slices.Equal(l, want) {
		t.Errorf("%s:\n%v, not\n%v", shown(p), l[:min(30, len(l))], want[:min(30, len(want))])
	}
	if n := steps.Size(p); n != len(want) {
		t.Errorf("%s: the size is %d, not %d", shown(p), n, len(want))
	}
	if !steps.Valid(l) {
		t.Errorf("%s: compiled, and not valid", shown(p))
	}
}

// fails tells whether a part has an error, and no other.
func fails(t *testing.T, p api.Part, want api.Errno) {
	t.Helper()
	l, e := steps.Compile(p)
	var number api.Errno
	if !errors.As(e, &number) || number != want || !errors.Is(e, want) {
		t.Errorf("%s: %v, not %v", shown(p), e, want)
	}
	if len(l) != 0 {
		t.Errorf("%s: %d steps beside an error", shown(p), len(l))
	}
	size := 0
	if want == api.ErrLarge {
		size = 4001
	}
	if n := steps.Size(p); n != size {
		t.Errorf("%s: the size is %d, not %d", shown(p), n, size)
	}
}

// within are parts that have a part in them, at each kind of place, right and not large if that is.
func within(p api.Part) []api.Part {
	a := one('a')
	return []api.Part{p, row(p), row(p, a), row(a, p), row(a, p, a), or(p), or(p, a), or(a, p), or(a, p, a), star(p), plus(p), repeat(0, 0, p), repeat(1, 1, p), repeat(2, 3, p), maybe(row(or(a, p), a)), star(star(p)), or(row(a, star(p)), a)}
}

func TestP51Kinds(t *testing.T) {
	a, b, c := one('a'), one('b'), one('c')
	for _, k := range []struct {
		p    api.Part
		want []api.Step
	}{
		{none(), list(found())},
		{a, list(set('a', 1), found())},
		{of(api.Set{}), list(api.Step{X: 1}, found())},
		{of(charset.Range(0, 255)), list(api.Step{Set: charset.Range(0, 255), X: 1}, found())},
		{begin(), list(atBegin(1), found())},
		{end(), list(atEnd(1), found())},

		{row(), list(found())},
		{row(a), list(set('a', 1), found())},
		{row(none()), list(found())},
		{row(a, b, c), list(set('a', 1), set('b', 2), set('c', 3), found())},
		{row(begin(), none(), a, end()), list(atBegin(1), set('a', 2), atEnd(3), found())},
		{row(row(a, row(b)), row(), row(c)), list(set('a', 1), set('b', 2), set('c', 3), found())},

		{or(a), list(set('a', 1), found())},
		{or(none()), list(found())},
		{or(a, b), list(fork(1, 3), set('a', 2), fork(4, 4), set('b', 4), found())},
		{or(a, b, c), list(fork(1, 3), set('a', 2), fork(7, 7), fork(4, 6), set('b', 5), fork(7, 7), set('c', 7), found())},
		{or(none(), none()), list(fork(1, 2), fork(2, 2), found())},
		{or(a, none()), list(fork(1, 3), set('a', 2), fork(3, 3), found())},
		{or(none(), a), list(fork(1, 2), fork(3, 3), set('a', 3), found())},
		{or(none(), none(), none()), list(fork(1, 2), fork(4, 4), fork(3, 4), fork(4, 4), found())},
		{or(or(a, b), c), list(fork(1, 6), fork(2, 4), set('a', 3), fork(5, 5), set('b', 5), fork(7, 7), set('c', 7), found())},
		{or(a, or(b, c)), list(fork(1, 3), set('a', 2), fork(7, 7), fork(4, 6), set('b', 5), fork(7, 7), set('c', 7), found())},
		{row(or(a, b), c), list(fork(1, 3), set('a', 2), fork(4, 4), set('b', 4), set('c', 5), found())},
		{row(c, or(row(a, a), end())), list(set('c', 1), fork(2, 5), set('a', 3), set('a', 4), fork(6, 6), atEnd(6), found())},
	} {
		holds(t, k.p, k.want)
	}
}

func TestP51Repeats(t *testing.T) {
	a, b := one('a'), one('b')
	for _, k := range []struct {
		p    api.Part
		want []api.Step
	}{
		{star(a), list(fork(1, 3), set('a', 2), fork(0, 0), found())},
		{plus(a), list(set('a', 1), fork(2, 4), set('a', 3), fork(1, 1), found())},
		{repeat(2, -1, a), list(set('a', 1), set('a', 2), fork(3, 5), set('a', 4), fork(2, 2), found())},
		{repeat(0, 0, a), list(found())},
		{repeat(0, 0, star(a)), list(found())},
		{maybe(a), list(fork(1, 2), set('a', 2), found())},
		{repeat(0, 2, a), list(fork(1, 4), set('a', 2), fork(3, 4), set('a', 4), found())},
		{repeat(1, 1, a), list(set('a', 1), found())},
		{repeat(2, 2, a), list(set('a', 1), set('a', 2), found())},
		{repeat(1, 3, a), list(set('a', 1), fork(2, 5), set('a', 3), fork(4, 5), set('a', 5), found())},
		{star(none()), list(fork(1, 2), fork(0, 0), found())},
		{plus(none()), list(fork(1, 2), fork(0, 0), found())},
		{repeat(255, -1, none()), list(fork(1, 2), fork(0, 0), found())},
		{repeat(255, 255, none()), list(found())},
		{repeat(3, 5, none()), list(fork(1, 2), fork(2, 2), found())},
		{star(row()), list(fork(1, 2), fork(0, 0), found())},
		{star(begin()), list(fork(1, 3), atBegin(2), fork(0, 0), found())},
		{maybe(end()), list(fork(1, 2), atEnd(2), found())},
		{star(star(a)), list(fork(1, 5), fork(2, 4), set('a', 3), fork(1, 1), fork(0, 0), found())},
		{plus(star(a)), list(fork(1, 3), set('a', 2), fork(0, 0), fork(4, 8), fork(5, 7), set('a', 6), fork(4, 4), fork(3, 3), found())},
		{maybe(maybe(a)), list(fork(1, 3), fork(2, 3), set('a', 3), found())},
		{repeat(2, 2, or(a, b)), list(fork(1, 3), set('a', 2), fork(4, 4), set('b', 4), fork(5, 7), set('a', 6), fork(8, 8), set('b', 8), found())},
		{row(b, star(row(a, b)), a), list(set('b', 1), fork(2, 5), set('a', 3), set('b', 4), fork(1, 1), set('a', 6), found())},
		{row(repeat(0, 2, a), b), list(fork(1, 4), set('a', 2), fork(3, 4), set('a', 4), set('b', 5), found())},
		{or(star(a), b), list(fork(1, 5), fork(2, 4), set('a', 3), fork(1, 1), fork(6, 6), set('b', 6), found())},
		{star(or(a, b)), list(fork(1, 6), fork(2, 4), set('a', 3), fork(5, 5), set('b', 5), fork(0, 0), found())},
	} {
		holds(t, k.p, k.want)
	}
}

// TestP51Bounds: all bounds that may be, of a part of one step and of one of none.
func TestP51Bounds(t *testing.T) {
	for least := range 256 {
		for most := least - 1; most <= 255; most++ {
			bound := most
			if most < least {
				bound = -1
			}
			for _, p := range []api.Part{repeat(least, bound, one('a')), repeat(least, bound, none())} {
				if bound == -1 || least < 3 || most > 252 || most-least < 2 {
					holds(t, p, again(p))
				} else if n, want := steps.Size(p), len(again(p)); n != want {
					t.Errorf("%s: %d steps, not %d", shown(p), n, want)
				}
			}
		}
	}
}

// TestP51Read: programs of expressions.
func TestP51Read(t *testing.T) {
	for s, want := range map[string][]api.Step{
		"":         list(found()),
		"a*":       list(fork(1, 3), set('a', 2), fork(0, 0), found()),
		"^a|b$":    list(fork(1, 4), atBegin(2), set('a', 3), fork(6, 6), set('b', 5), atEnd(6), found()),
		"a{2}b?":   list(set('a', 1), set('a', 2), fork(3, 4), set('b', 4), found()),
		"(a|b)+":   list(fork(1, 3), set('a', 2), fork(4, 4), set('b', 4), fork(5, 10), fork(6, 8), set('a', 7), fork(9, 9), set('b', 9), fork(4, 4), found()),
		"(|a)x":    list(fork(1, 2), fork(3, 3), set('a', 3), set('x', 4), found()),
		"x(a|b|)*": list(set('x', 1), fork(2, 9), fork(3, 5), set('a', 4), fork(8, 8), fork(6, 8), set('b', 7), fork(8, 8), fork(1, 1), found()),
	} {
		p, e := ere.Parse([]byte(s))
		if e != nil {
			t.Fatal(s, e)
		}
		holds(t, p, want)
	}
}

func TestP51Form(t *testing.T) {
	a := one('a')
	for _, p := range []api.Part{
		{Kind: 7}, {Kind: -1}, {Kind: 1 << 62}, {Kind: -1 << 63}, {Kind: 8, L: copies(2, a)}, {Kind: 7, Set: a.Set},
		repeat(0, -1), repeat(0, -1, a, a), repeat(1, 2, a, a, a), repeat(0, 0), repeat(0, 0, a, a), {Kind: api.PartRepeat, Set: a.Set},
		repeat(-1, -1, a), repeat(-1, 0, a), repeat(-1, 2, a), repeat(-2, -1, a), repeat(-1<<63, -1, a), repeat(-1<<63, 255, a),
		repeat(256, -1, a), repeat(256, 256, a), repeat(256, 255, a), repeat(1<<62, -1, a), repeat(1<<63-1, 1<<63-1, a),
		repeat(0, -2, a), repeat(2, -2, a), repeat(0, -1<<63, a), repeat(255, -255, a),
		repeat(0, 256, a), repeat(255, 256, a), repeat(0, 1<<62, a), repeat(0, 1<<63-1, a),
		repeat(1, 0, a), repeat(3, 2, a), repeat(255, 254, a), repeat(255, 0, a),
		repeat(256, -1, none()), repeat(0, 256, none()), repeat(3, 2, row()),
		or(), {Kind: api.PartOr, Set: a.Set, Min: 1, Max: 2},
	} {
		for _, q := range within(p) {
			fails(t, q, api.ErrForm)
			fails(t, row(q, p), api.ErrForm)
		}
	}
}

// TestP51NotLookedAt: fields that the kind doesn't tell may have anything in them.
func TestP51NotLookedAt(t *testing.T) {
	deep := nested(3000, odd(), star)
	a := one('a')
	x := charset.Range('x', 'z')
	for i, bad := range [][]api.Part{{odd()}, {or(), deep}, {deep}, copies(5000, a), {}} {
		for j, c := range []struct{ p, want api.Part }{
			{api.Part{Kind: api.PartNone, Set: x, Min: 900, Max: 2, L: bad}, none()},
			{api.Part{Kind: api.PartSet, Set: x, Min: -9, Max: 2, L: bad}, of(x)},
			{api.Part{Kind: api.PartBegin, Set: x, Min: 900, Max: -2, L: bad}, begin()},
			{api.Part{Kind: api.PartEnd, Set: x, Min: 900, Max: 900, L: bad}, end()},
			{api.Part{Kind: api.PartRow, Set: x, Min: 900, Max: -2, L: copies(2, a)}, row(a, a)},
			{api.Part{Kind: api.PartRow, Set: x, Min: 1, Max: 900}, row()},
			{api.Part{Kind: api.PartOr, Set: x, Min: -900, Max: 2, L: copies(2, a)}, or(a, a)},
			{api.Part{Kind: api.PartRepeat, Set: x, Min: 2, Max: 9, L: copies(1, a)}, repeat(2, 9, a)},
		} {
			wanted := within(c.want)
			for k, q := range within(c.p) {
				if t.Failed() {
					t.Fatal(i, j, k)
				}
				holds(t, q, again(wanted[k]))
			}
			p := c.p
			for range 1199 {
				p = row(p)
			}
			if len(c.want.L) > 0 {
				fails(t, p, api.ErrDeep)
			} else {
				holds(t, p, again(c.want))
			}
		}
	}
}

// deepeners put a part one level deeper, at each kind of place, by a few steps.
func deepeners() []func(p api.Part) api.Part {
	return []func(p api.Part) api.Part{
		func(p api.Part) api.Part { return row(p) },
		func(p api.Part) api.Part { return row(none(), p) },
		func(p api.Part) api.Part { return row(p, none()) },
		func(p api.Part) api.Part { return row(p, one('a')) },
		func(p api.Part) api.Part { return row(one('a'), p) },
		func(p api.Part) api.Part { return or(p) },
		func(p api.Part) api.Part { return or(p, none()) },
		func(p api.Part) api.Part { return or(none(), p) },
		func(p api.Part) api.Part { return repeat(0, 0, p) },
		func(p api.Part) api.Part { return repeat(1, 1, p) },
		maybe,
		star,
	}
}

func TestP51Deep(t *testing.T) {
	for i, deepen := range deepeners() {
		for _, p := range []api.Part{none(), one('a'), begin(), end(), row()} {
			for _, n := range []int{1, 2, 1199, 1200} {
				q := nested(n, p, deepen)
				holds(t, q, again(q))
			}
			for _, n := range []int{1201, 1202, 5000} {
				fails(t, nested(n, p, deepen), api.ErrDeep)
			}
			if t.Failed() {
				t.Fatal(i)
			}
		}
		fails(t, nested(1200, odd(), deepen), api.ErrForm)
		fails(t, nested(1200, or(), deepen), api.ErrForm)
		fails(t, nested(1201, odd(), deepen), api.ErrDeep)
		fails(t, nested(1201, or(), deepen), api.ErrDeep)
		fails(t, nested(1201, repeat(2, 1), deepen), api.ErrDeep)
	}
	fails(t, nested(1_000_000, none(), star), api.ErrDeep)
}

// TestP51First: of two things that are wrong the one that is met first is told.
func TestP51First(t *testing.T) {
	a := one('a')
	deep, shallow := nested(1200, a, star), nested(1199, a, star) // as parts of a part, too deep or not
	for i, c := range []struct {
		p api.Part
		e api.Errno
	}{
		{row(odd(), deep), api.ErrForm},
		{row(deep, odd()), api.ErrDeep},
		{or(odd(), deep), api.ErrForm},
		{or(deep, odd()), api.ErrDeep},
		{or(shallow, odd()), api.ErrForm},
		{row(a, row(a, or()), deep), api.ErrForm},
		{row(a, row(a, deep), or()), api.ErrDeep},
		{row(row(shallow), odd()), api.ErrDeep},
		{row(row(odd()), row(deep)), api.ErrForm},
		{api.Part{Kind: 7, L: copies(1, deep)}, api.ErrForm},
		{repeat(0, -1, deep, a), api.ErrForm},
		{repeat(0, -1, a, deep), api.ErrForm},
		{repeat(3, 2, deep), api.ErrForm},
		{repeat(256, -1, deep), api.ErrForm},
		{repeat(0, -1, deep), api.ErrDeep},
		{repeat(0, 0, deep), api.ErrDeep},
		{repeat(0, 0, row(odd(), deep)), api.ErrForm},
		{repeat(0, -1, row(deep, odd())), api.ErrDeep},
		{row(star(deep), odd()), api.ErrDeep},
		{row(odd(), star(deep)), api.ErrForm},
		{nested(1200, row(odd(), a), star), api.ErrDeep},
		{nested(1199, row(odd(), star(a)), star), api.ErrForm},
		{nested(1199, row(star(a), odd()), star), api.ErrDeep},
	} {
		fails(t, c.p, c.e)
		if t.Failed() {
			t.Fatal(i)
		}
	}
}

// TestP51Large: the last program that may be, and the first that may not.
func TestP51Large(t *testing.T) {
	a := one('a')
	for _, c := range []struct{ most, more api.Part }{
		{row(copies(3999, a)...), row(copies(4000, a)...)},
		{row(copies(3999, begin())...), row(copies(4000, end())...)},
		{row(row(copies(3000, a)...), row(copies(999, a)...)), row(row(copies(3000, a)...), row(copies(1000, a)...))},
		{or(append(copies(1999, none()), a)...), or(append(copies(1999, none()), row(a, a))...)},
		{or(append(copies(1333, a), none())...), or(append(copies(1333, a), a)...)},
		{row(copies(1333, star(a))...), row(append(copies(1333, star(a)), a)...)},
		{row(append(copies(1999, maybe(a)), a)...), row(append(copies(1999, maybe(a)), a, a)...)},
		{repeat(31, 31, repeat(129, 129, a)), repeat(32, 32, repeat(125, 125, a))},
		{row(repeat(255, 255, repeat(15, 15, a)), repeat(174, 174, a)), row(repeat(255, 255, repeat(15, 15, a)), repeat(175, 175, a))},
		{row(append(copies(1999, star(none())), a)...), row(copies(2000, star(none()))...)},
		{row(repeat(7, 7, repeat(0, 255, a)), repeat(0, 255, none()), repeat(174, 174, a)), row(repeat(7, 7, repeat(0, 255, a)), repeat(0, 255, none()), repeat(175, 175, a))},
		{row(repeat(254, -1, row(copies(15, a)...)), repeat(172, 172, a)), row(repeat(255, -1, row(copies(15, a)...)), repeat(172, 172, a))},
	} {
		for _, p := range []api.Part{c.most, row(c.most), or(c.most), repeat(1, 1, c.most), row(none(), c.most, repeat(255, 255, none()))} {
			holds(t, p, again(p))
		}
		for _, p := range []api.Part{c.more, row(c.more), or(c.more), repeat(1, 1, c.more), row(none(), c.more), row(c.most, a), row(a, c.most), repeat(2, 2, c.most), plus(c.most), maybe(c.more), or(c.most, none())} {
			fails(t, p, api.ErrLarge)
		}
	}
	if n := steps.Size(row(copies(3999, a)...)); n != api.MaxStates {
		t.Errorf("%d steps", n)
	}
}

// large are parts whose programs are far too large.
func large() []api.Part {
	a := one('a')
	return []api.Part{
		row(copies(4000, a)...), row(copies(100000, a)...), or(copies(9000, none())...),
		repeat(255, -1, repeat(255, 255, a)),
		nested(12, a, func(p api.Part) api.Part { return repeat(255, 255, p) }),
		nested(1200, a, func(p api.Part) api.Part { return repeat(255, -1, p) }),
		nested(1200, none(), func(p api.Part) api.Part { return repeat(0, 255, p) }),
		nested(600, none(), func(p api.Part) api.Part { return repeat(254, -1, p) }),
	}
}

func TestP51Grows(t *testing.T) {
	for _, p := range large() {
		for _, q := range []api.Part{p, repeat(1, 1, p)} {
			if deepest(q) <= 1200 {
				fails(t, q, api.ErrLarge)
			} else {
				fails(t, q, api.ErrDeep)
			}
		}
	}
}

// TestP51GrowsFromNothing: repeats of what has no steps, and none of what has too many.
func TestP51GrowsFromNothing(t *testing.T) {
	a := one('a')
	nothing := nested(1100, none(), func(p api.Part) api.Part { return repeat(255, 255, p) })
	for _, p := range []api.Part{nothing, row(nothing, nothing), repeat(255, 255, row(copies(1000, nothing)...)), repeat(0, 0, nothing), or(nothing)} {
		holds(t, p, list(found()))
		holds(t, row(p, a, p), list(set('a', 1), found()))
		holds(t, star(p), list(fork(1, 2), fork(0, 0), found()))
		holds(t, repeat(255, -1, p), list(fork(1, 2), fork(0, 0), found()))
		holds(t, or(p, p), list(fork(1, 2), fork(2, 2), found()))
		holds(t, repeat(15, 15, repeat(255, 255, row(p, a))), again(repeat(15, 15, repeat(255, 255, a))))
	}
	for _, p := range large() {
		if deepest(p) > 1190 {
			continue
		}
		holds(t, repeat(0, 0, p), list(found()))
		holds(t, row(a, repeat(0, 0, p), a), list(set('a', 1), set('a', 2), found()))
		holds(t, repeat(0, 0, row(p, star(p))), list(found()))
		holds(t, repeat(3, -1, repeat(0, 0, p)), list(fork(1, 2), fork(0, 0), found()))
	}
}

// TestP51LargeLast: that a program would be too large is told only where nothing else is wrong.
func TestP51LargeLast(t *testing.T) {
	deep := nested(1200, one('a'), star)
	for _, p := range large() {
		if deepest(p) > 1190 {
			continue
		}
		for _, q := range []api.Part{p, row(p), or(p, none()), star(p), repeat(0, 0, p)} {
			fails(t, row(q, odd()), api.ErrForm)
			fails(t, row(odd(), q), api.ErrForm)
			fails(t, row(q, repeat(0, 0, or())), api.ErrForm)
			fails(t, or(q, deep), api.ErrDeep)
			fails(t, or(deep, q), api.ErrDeep)
			fails(t, or(q, row(deep, odd())), api.ErrDeep)
			fails(t, or(q, row(odd(), deep)), api.ErrForm)
			fails(t, repeat(2, 1, q), api.ErrForm)
			fails(t, repeat(0, 256, q), api.ErrForm)
			fails(t, repeat(1, 2, q, q), api.ErrForm)
		}
	}
	fails(t, nested(1201, row(copies(5000, one('a'))...), star), api.ErrDeep)
	fails(t, row(append(copies(5000, one('a')), odd())...), api.ErrForm)
	fails(t, or(append(copies(5000, one('a')), deep)...), api.ErrDeep)
}

// deepest is how deep a part is nested, its own level too.
func deepest(p api.Part) int {
	n := 0
	for _, q := range p.L {
		n = max(n, deepest(q))
	}
	return n + 1
}
