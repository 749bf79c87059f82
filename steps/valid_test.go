package steps_test

import (
	"slices"
	"testing"

	"fieldfare/api"
	"fieldfare/charset"
	"fieldfare/steps"
)

func valid(t *testing.T, want bool, l ...api.Step) {
	t.Helper()
	if steps.Valid(l) != want {
		t.Errorf("%v: %v", l, !want)
	}
}

func TestP52Size(t *testing.T) {
	a := one('a')
	for i, c := range []struct {
		p api.Part
		n int
	}{
		{none(), 1}, {a, 2}, {begin(), 2}, {end(), 2}, {of(api.Set{}), 2},
		{row(), 1}, {row(a), 2}, {row(a, a), 3}, {row(copies(3999, a)...), 4000}, {row(copies(4000, a)...), 4001}, {row(copies(4001, a)...), 4001}, {row(copies(50000, a)...), 4001},
		{or(a), 2}, {or(a, a), 5}, {or(a, a, a), 8}, {or(none(), none()), 3},
		{star(a), 4}, {plus(a), 5}, {maybe(a), 3}, {repeat(255, -1, a), 259}, {repeat(0, 255, a), 511}, {repeat(255, 255, a), 256}, {repeat(0, 0, a), 1}, {repeat(2, 5, a), 9}, {repeat(255, 255, none()), 1}, {repeat(0, 255, none()), 256},
		{repeat(255, 255, repeat(255, 255, a)), 4001},
		{odd(), 0}, {or(), 0}, {repeat(1, 1), 0}, {repeat(1, 1, a, a), 0}, {repeat(-1, 1, a), 0}, {repeat(256, -1, a), 0}, {repeat(0, -2, a), 0}, {repeat(0, 256, a), 0}, {repeat(2, 1, a), 0},
		{row(row(copies(50000, a)...), odd()), 0}, {nested(1200, a, star), 2*1199 + 2}, {nested(1201, a, star), 0}, {nested(1200, a, plus), 4001},
	} {
		if n := steps.Size(c.p); n != c.n {
			t.Errorf("%d: %s: %d, not %d", i, shown(c.p), n, c.n)
		}
	}
}

func TestP52Valid(t *testing.T) {
	some := charset.Range('a', 'c')
	all := charset.Range(0, 255)
	valid(t, true, found())
	valid(t, true, found(), found())
	valid(t, true, set('a', 1), found())
	valid(t, true, set('a', 0), found()) // it needn't be reached
	valid(t, true, found(), set('a', 0))
	valid(t, true, api.Step{X: 1}, found())
	valid(t, true, api.Step{Set: all, X: 1}, found())
	valid(t, true, fork(0, 0), found())
	valid(t, true, fork(1, 0), found())
	valid(t, true, fork(0, 1), found())
	valid(t, true, fork(1, 1), found())
	valid(t, true, atBegin(1), atEnd(0), found())
	valid(t, true, atEnd(2), atBegin(1), found())
	valid(t, true, fork(1, 3), api.Step{Set: some, X: 2}, fork(0, 0), found())
}

// TestP52Faults: steps that are wrong in one thing each.
func TestP52Faults(t *testing.T) {
	some := charset.Range('a', 'c')
	valid(t, false)
	valid(t, false, []api.Step{}...)
	for _, s := range []api.Step{set('a', 0), fork(0, 0), atBegin(0), atEnd(0)} { // nothing is found
		valid(t, false, s)
		valid(t, false, s, s, s)
	}
	for _, bad := range []api.Step{
		{Kind: 5}, {Kind: -1}, {Kind: 1 << 62}, {Kind: -1 << 63}, {Kind: 5, X: 1, Y: 1}, {Kind: 5, Set: some, X: 1},
		{Kind: api.StepBegin, Set: some, X: 1}, {Kind: api.StepEnd, Set: some, X: 1}, {Kind: api.StepFork, Set: some, X: 1, Y: 1}, {Kind: api.StepFound, Set: some},
		{Kind: api.StepFork, Set: api.Set{1}, X: 1, Y: 1}, {Kind: api.StepBegin, Set: api.Set{0, 1}, X: 1}, {Kind: api.StepEnd, Set: api.Set{0, 0, 1}, X: 1}, {Kind: api.StepFound, Set: api.Set{0, 0, 0, 1 << 63}},
		{Kind: api.StepSet, Set: some, X: 1, Y: 1}, {Kind: api.StepBegin, X: 1, Y: 1}, {Kind: api.StepEnd, X: 1, Y: 1}, {Kind: api.StepSet, X: 1, Y: -1}, {Kind: api.StepSet, X: 1, Y: 1 << 62},
		{Kind: api.StepFound, X: 1}, {Kind: api.StepFound, Y: 1}, {Kind: api.StepFound, X: -1}, {Kind: api.StepFound, Y: -1}, {Kind: api.StepFound, X: 1 << 62},
	} {
		isWrong(t, bad)
	}
	for _, at := range []int{4, 5, -1, 1 << 62, -1 << 63, 1<<63 - 1} { // no step of four
		for _, bad := range []api.Step{set('a', at), fork(at, 0), fork(0, at), fork(at, at), atBegin(at), atEnd(at)} {
			isWrong(t, bad)
		}
	}
}

// isWrong puts a step at each place of four that are right beside it.
func isWrong(t *testing.T, bad api.Step) {
	t.Helper()
	for i := range 4 {
		l := list(set('a', 3), fork(1, 2), found(), found())
		valid(t, true, l...)
		l[i] = bad
		valid(t, false, l...)
	}
}

// TestP53Changed: a program is valid, and isn't any more with a change that makes one of its steps wrong.
func TestP53Changed(t *testing.T) {
	d := draw{state: 2}
	for range 500 {
		d.lists = nil
		l, e := steps.Compile(d.part(4))
		if e != nil {
			continue
		}
		valid(t, true, l...)
		valid(t, false, l[:len(l)-1]...) // what follows all isn't there
		for range 20 {
			bad := slices.Clone(l)
			s := &bad[d.below(len(l))]
			switch change := d.below(4); {
			case change == 0:
				s.Kind = 5 + d.below(9)
			case change == 1:
				s.X = len(l) + d.below(9)
			case change == 2 || s.Kind == api.StepSet:
				s.Y = -1 - d.below(9)
			default:
				s.Set = charset.Range('x', 'x')
			}
			valid(t, false, bad...)
		}
	}
}

// TestP53Stays: what is handed in isn't changed nor kept, what lies behind a list's length is neither read nor written, and the same is told again.
func TestP53Stays(t *testing.T) {
	memory := []api.Part{one('a'), star(one('b')), or(one('c'), none()), odd(), odd()}
	inner := []api.Part{row(memory[:3]...), odd()}
	p := row(one('x'), repeat(1, 3, inner[:1]...), or(memory[:3]...), row(memory[:0]...))
	was, wasMemory, wasInner := whole(p), whole(row(memory...)), whole(row(inner...))
	want := again(p)
	first, e := steps.Compile(p)
	if e != nil {
		t.Fatal(e)
	}
	for range 5 {
		l, _ := steps.Compile(p)
		if !slices.Equal(l, want) || steps.Size(p) != len(want) {
			t.Errorf("%v, not %v", l, want)
		}
		for i := range l { // what is answered is new
			l[i] = fork(9, 9)
		}
		_ = append(l, found(), found())
	}
	if whole(p) != was || whole(row(memory...)) != wasMemory || whole(row(inner...)) != wasInner {
		t.Error("what is handed in was changed")
	}
	memory[0] = one('y')
	if !slices.Equal(first, want) {
		t.Error("what was handed in is kept")
	}
	holds(t, p, again(p))
	if slices.Equal(again(p), want) {
		t.Error("the part wasn't changed")
	}
}

// TestP53ValidStays: Valid changes nothing, and reads nothing behind the length.
func TestP53ValidStays(t *testing.T) {
	l := list(set('a', 1), fork(2, 0), found(), api.Step{Kind: 9}, found())
	was := slices.Clone(l)
	valid(t, true, l[:3]...)
	valid(t, false, l[:2]...) // what is found lies behind
	valid(t, false, l...)
	if !slices.Equal(l, was) {
		t.Error("what is handed in was changed")
	}
}
