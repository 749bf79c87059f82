package ere_test

import (
	"strings"
	"testing"

	"fieldfare/api"
	"fieldfare/charset"
	"fieldfare/ere"
)

// text is what Text tells: an expression, and whether there is one.
func text(t *testing.T, p api.Part) (string, bool) {
	t.Helper()
	s, ok := ere.Text(p)
	if !ok && s != "" {
		t.Errorf("%.300s: %q beside false", shown(p), s)
	}
	return s, ok
}

// comesBack tells whether a part that Parse may tell is told by Text, and read as it was.
func comesBack(t *testing.T, p api.Part) {
	t.Helper()
	s, ok := text(t, p)
	if hasEmptySet(p) {
		if ok {
			t.Errorf("%.300s: %q, and a set in it has no bytes", shown(p), s)
		}
		return
	}
	if !ok {
		t.Errorf("%.300s: no text", shown(p))
		return
	}
	if len(s) <= 1000 {
		holds(t, s, p)
	}
}

func hasEmptySet(p api.Part) bool {
	if p.Kind == api.PartSet && p.Set == (api.Set{}) {
		return true
	}
	for _, q := range p.L {
		if hasEmptySet(q) {
			return true
		}
	}
	return false
}

// within are parts that have a part in them, at each kind of place.
func within(p api.Part) []api.Part {
	a := one('a')
	return []api.Part{p, row(p, a), row(a, p), row(a, p, a), or(p, a), or(a, p), or(a, p, a), star(p), repeat(2, 3, p), maybe(row(or(a, p), a)), star(star(p)), or(row(a, star(p)), a)}
}

func TestP42Nodes(t *testing.T) {
	a := one('a')
	for i, c := range []struct {
		p api.Part
		n int
	}{
		{none(), 1}, {a, 1}, {begin(), 1}, {end(), 1}, {every(), 1}, {of(api.Set{}), 1}, {api.Part{Kind: 9}, 1}, {api.Part{Kind: -1}, 1},
		{row(), 1}, {or(), 1}, {api.Part{Kind: api.PartRepeat}, 1}, {row(a), 2}, {or(none()), 2},
		{row(a, a), 3}, {or(a, a, a), 4}, {star(a), 2}, {star(star(a)), 3}, {repeat(2, 255, a), 2}, {repeat(9, 2, a), 2},
		{api.Part{Kind: api.PartRepeat, L: []api.Part{a, a}}, 3}, {row(api.Part{Kind: 9}, a), 3},
		{row(a, or(a, star(a)), begin()), 7}, {row(row(), or()), 3}, {letters(strings.Repeat("a", 5000)), 5001},
		{row(row(a, a), row(a, a), row(a, row(a, a))), 12},
	} {
		if n := ere.Nodes(c.p); n != c.n {
			t.Errorf("%d: %.300s: %d, not %d", i, shown(c.p), n, c.n)
		}
	}
	for s, n := range map[string]int{"": 1, "a": 1, "a|b*": 4, "(ab|c)+x{2,3}[^a].": 11, "a{x": 4, "()*": 2, "a|": 3, "((a))": 1} {
		if p, _ := parse(t, s); ere.Nodes(p) != n {
			t.Errorf("%q: %d, not %d", s, ere.Nodes(p), n)
		}
	}
}

// TestP42Shared: a list may stand at many places; each of its parts counts at each.
func TestP42Shared(t *testing.T) {
	p := one('a')
	for i := range 62 {
		if n := ere.Nodes(p); n != 1<<(i+1)-1 {
			t.Fatalf("%d: %d", i, n)
		}
		p = row(p, p)
	}
	if n := ere.Nodes(p); n != 1<<63-1 {
		t.Errorf("%d", n)
	}
	if _, ok := text(t, row(p, of(api.Set{}))); ok {
		t.Error("a set without bytes behind many parts")
	}
	l := letters("abc").L
	if n := ere.Nodes(row(row(l...), or(l...), row(l[:2]...), row(l[1:]...))); n != 1+4+4+3+3 {
		t.Errorf("pieces of a list: %d", n)
	}
	comesBack(t, row(row(l...), or(l...), row(l[:2]...), row(l[1:]...), star(or(l...))))
}

// TestP42Deep: parts may be nested far deeper than Parse takes.
func TestP42Deep(t *testing.T) {
	const n = 100000
	for i, c := range []struct {
		deepen func(p api.Part) api.Part
		nodes  int
	}{
		{star, 1},
		{func(p api.Part) api.Part { return row(p, one('a')) }, 2},
		{func(p api.Part) api.Part { return row(one('a'), p) }, 2},
		{func(p api.Part) api.Part { return or(p, one('a')) }, 2},
		{func(p api.Part) api.Part { return or(none(), star(p)) }, 3},
	} {
		right, wrong := letters("ab"), star(of(api.Set{}))
		for range n {
			right, wrong = c.deepen(right), c.deepen(wrong)
		}
		if got := ere.Nodes(right); got != 3+n*c.nodes {
			t.Errorf("%d: %d parts", i, got)
		}
		if s, ok := ere.Text(right); !ok || len(s) < n {
			t.Errorf("%d: %d bytes, %v", i, len(s), ok)
		}
		if s, ok := ere.Text(wrong); ok || s != "" {
			t.Errorf("%d: a set without bytes has %d bytes", i, len(s))
		}
	}
}

func TestP42NoText(t *testing.T) {
	a := one('a')
	of := func(kind, least, most int, l ...api.Part) api.Part {
		return api.Part{Kind: kind, Min: least, Max: most, L: l}
	}
	for _, p := range []api.Part{
		{Kind: 7}, {Kind: 9}, {Kind: -1}, {Kind: 1 << 62}, {Kind: -1 << 63}, of(7, 0, 0, a), of(9, 0, -1, a, a),
		{Kind: api.PartSet}, of(api.PartSet, 1, 2, a),
		row(), row(a), or(), or(a), {Kind: api.PartRow, Set: a.Set}, {Kind: api.PartOr, Set: a.Set},
		of(api.PartRepeat, 0, -1), of(api.PartRepeat, 0, -1, a, a), of(api.PartRepeat, 1, 2, a, a, a),
		repeat(-1, 2, a), repeat(-1, -1, a), repeat(256, -1, a), repeat(256, 256, a), repeat(0, 256, a), repeat(255, 256, a), repeat(3, 2, a), repeat(1, 0, a), repeat(0, -2, a), repeat(2, -2, a), repeat(-2, -2, a),
		repeat(1<<62, -1, a), repeat(-1<<63, -1, a), repeat(0, -1<<63, a), repeat(0, 1<<63-1, a),
	} {
		for _, q := range within(p) {
			if s, ok := text(t, q); ok {
				t.Errorf("%.300s: %q", shown(q), s)
			}
		}
	}
}

// TestP42NotLookedAt: fields that the kind doesn't tell may have anything in them.
func TestP42NotLookedAt(t *testing.T) {
	bad := []api.Part{{Kind: 9}, {Kind: api.PartSet}, {Kind: api.PartRow}}
	set := charset.Range('x', 'z')
	for i, c := range []struct{ p, want api.Part }{
		{api.Part{Kind: api.PartNone, Set: set, Min: 9, Max: 2, L: bad}, none()},
		{api.Part{Kind: api.PartSet, Set: set, Min: 9, Max: 2, L: bad}, of(set)},
		{api.Part{Kind: api.PartBegin, Set: set, Min: 9, Max: 2, L: bad}, begin()},
		{api.Part{Kind: api.PartEnd, Set: set, Min: 9, Max: 2, L: bad}, end()},
		{api.Part{Kind: api.PartRow, Set: set, Min: 9, Max: 2, L: letters("ab").L}, letters("ab")},
		{api.Part{Kind: api.PartOr, Set: set, Min: 9, Max: 2, L: letters("ab").L}, or(letters("ab").L...)},
		{api.Part{Kind: api.PartRepeat, Set: set, Min: 2, Max: 9, L: letters("a").L}, repeat(2, 9, one('a'))},
	} {
		wanted := within(c.want)
		for j, q := range within(c.p) {
			s, ok := text(t, q)
			if !ok {
				t.Errorf("%d, %d: no text", i, j)
				continue
			}
			holds(t, s, wanted[j])
		}
	}
}

// TestP43Kinds: parts of each kind in parts of each kind.
func TestP43Kinds(t *testing.T) {
	a, b := one('a'), one('b')
	for _, p := range []api.Part{none(), a, one('{'), one('|'), one('2'), begin(), end(), every(), of(charset.Range('a', 'c')), row(a, b), row(none(), none()), row(begin(), row(a, b)), or(a, b), or(none(), none()), or(none(), row(a, b)), star(a), plus(none()), maybe(or(a, b)), repeat(2, 3, row(a, b)), star(star(a)), row(one('{'), one('2'), one('}')), row(a, one('{'), one('2'), one('}')), row(one('\\'), one('n')), row(one('['), one(':'), one(']'))} {
		comesBack(t, p)
		for _, q := range within(p) {
			comesBack(t, q)
			for _, r := range within(q) {
				comesBack(t, r)
			}
		}
	}
}

func TestP43Bounds(t *testing.T) {
	for least := range 256 {
		comesBack(t, repeat(least, -1, one('a')))
		for most := least; most <= 255; most++ {
			comesBack(t, repeat(least, most, one('a')))
		}
	}
}

func TestP43Sets(t *testing.T) {
	for from := range 256 {
		for to := from; to < 256; to++ {
			s := charset.Range(byte(from), byte(to))
			comesBack(t, of(s))
			comesBack(t, row(one('a'), of(s), one('2'), one('}')))
			if from > 0 || to < 255 {
				comesBack(t, star(of(charset.Not(s))))
			}
			for _, c := range []byte("^-]\\[:{\x00\xff") {
				comesBack(t, of(charset.Or(s, charset.Range(c, c))))
			}
		}
	}
	for n := range 1 << 9 { // all sets of the bytes that mean something within [ and ], and of two beside them
		var s api.Set
		for i, c := range []byte("[\\]^-,.:a") {
			if n>>i&1 == 1 {
				s = charset.Or(s, charset.Range(c, c))
			}
		}
		if n > 0 {
			comesBack(t, of(s))
		}
		comesBack(t, of(charset.Not(s)))
	}
	d := drawn(2)
	for range 3000 {
		comesBack(t, of(api.Set{d.word(), d.word(), d.word(), d.word()}))
		comesBack(t, of(api.Set{d.word() & d.word() & d.word() & d.word(), 0, d.word() | d.word() | d.word(), 0}))
	}
}

// TestP43Signs: an atom may have eight signs; what has more of them stands in ( and ).
func TestP43Signs(t *testing.T) {
	for _, p := range []api.Part{one('a'), none(), row(one('a'), one('b')), begin()} {
		for range 100 {
			p = repeat(2, 3, p)
			comesBack(t, p)
			comesBack(t, row(p, star(p)))
		}
	}
}

// TestP43Deep: what Parse takes it takes again, however deep.
func TestP43Deep(t *testing.T) {
	for _, c := range []struct{ ahead, behind string }{{"(", "|b)"}, {"b(", ")"}, {"(", ")b"}, {"b(", "|)*"}, {"(", "b)+"}, {"(|", ")"}, {"b|(", ")"}} {
		for n := range 65 {
			agree(t, strings.Repeat(c.ahead, n)+"a|"+strings.Repeat(c.behind, n))
		}
	}
}

func TestP43Drawn(t *testing.T) {
	d := drawn(3)
	for range 20000 {
		p := d.part(5)
		n := countAll(p)
		if ere.Nodes(p) != n {
			t.Fatalf("%s: %d parts, not %d", shown(p), ere.Nodes(p), n)
		}
		comesBack(t, p)
		if t.Failed() {
			return
		}
	}
}

func countAll(p api.Part) int {
	n := 1
	for _, q := range p.L {
		n += countAll(q)
	}
	return n
}

// TestP43Stays: what is handed in isn't changed, what lies behind a list's length is neither read nor written, and the same is told again.
func TestP43Stays(t *testing.T) {
	bad := api.Part{Kind: 9, Min: 5}
	memory := []api.Part{one('a'), star(one('b')), or(one('c'), none()), bad, bad}
	inner := []api.Part{row(memory[:3]...), bad}
	p := row(one('x'), api.Part{Kind: api.PartRepeat, Max: 2, L: inner[:1]}, api.Part{Kind: api.PartOr, L: memory[:3]})
	was, wasMemory, wasInner := shown(p), shown(row(memory...)), shown(row(inner...))
	s, ok := text(t, p)
	n := ere.Nodes(p)
	if !ok || n != 17 {
		t.Errorf("%q %v %d", s, ok, n)
	}
	holds(t, s, p)
	for range 5 {
		if again, _ := text(t, p); again != s || ere.Nodes(p) != n {
			t.Errorf("%q, then %q", s, again)
		}
	}
	if shown(p) != was || shown(row(memory...)) != wasMemory || shown(row(inner...)) != wasInner {
		t.Error("what is handed in was changed")
	}
	memory[0] = one('y')
	if changed, _ := text(t, p); changed == s {
		t.Error("what was handed in is kept")
	}
}

// draw gives numbers that are as good as any, and the same ones each time.
type draw struct{ state uint64 }

func drawn(n uint64) *draw { return &draw{n} }

func (d *draw) word() uint64 {
	d.state = d.state*6364136223846793005 + 1442695040888963407
	return d.state ^ d.state>>29
}

func (d *draw) below(n int) int { return int(d.word() >> 33 % uint64(n)) }

// part is a part, nested so deep at most.
func (d *draw) part(deep int) api.Part {
	kind := d.below(9)
	if deep == 0 {
		kind %= 5
	}
	switch kind {
	case 0:
		return none()
	case 1:
		return begin()
	case 2:
		return end()
	case 3:
		letters := "ab{}2,|()[]\\^$.*+?-\n\x00\xff"
		return one(letters[d.below(len(letters))])
	case 4:
		from := d.below(256)
		return of(charset.Range(byte(from), byte(from+d.below(256-from))))
	case 5, 6:
		least := d.below(256)
		return repeat(least%(1+d.below(256)), []int{-1, 255, 254 + d.below(2)}[d.below(3)], d.part(deep-1))
	}
	l := []api.Part{d.part(deep - 1), d.part(deep - 1)}
	for range d.below(3) {
		l = append(l, d.part(deep-1))
	}
	if kind == 7 {
		return row(l...)
	}
	return or(l...)
}
