package ere_test

import (
	"errors"
	"fmt"
	"strings"
	"testing"

	"fieldfare/api"
	"fieldfare/charset"
	"fieldfare/ere"
)

// The tests put parts together by the functions below, and hold them by shown, which tells every field of every part.

func none() api.Part             { return api.Part{} }
func begin() api.Part            { return api.Part{Kind: api.PartBegin} }
func end() api.Part              { return api.Part{Kind: api.PartEnd} }
func of(s api.Set) api.Part      { return api.Part{Kind: api.PartSet, Set: s} }
func row(l ...api.Part) api.Part { return api.Part{Kind: api.PartRow, L: l} }
func or(l ...api.Part) api.Part  { return api.Part{Kind: api.PartOr, L: l} }
func star(p api.Part) api.Part   { return repeat(0, -1, p) }
func plus(p api.Part) api.Part   { return repeat(1, -1, p) }
func maybe(p api.Part) api.Part  { return repeat(0, 1, p) }
func every() api.Part            { return of(charset.Range(0, 255)) }
func one(c byte) api.Part        { return of(charset.Range(c, c)) }

func repeat(least, most int, p api.Part) api.Part {
	return api.Part{Kind: api.PartRepeat, Min: least, Max: most, L: []api.Part{p}}
}

// letters is the row of a text's bytes.
func letters(s string) api.Part {
	var l []api.Part
	for _, c := range []byte(s) {
		l = append(l, one(c))
	}
	return row(l...)
}

func shown(p api.Part) string {
	s := fmt.Sprintf("%d[%x %d %d", p.Kind, p.Set, p.Min, p.Max)
	for _, q := range p.L {
		s += " " + shown(q)
	}
	return s + "]"
}

// wrong is an error, and its place.
type wrong struct {
	e  api.Errno
	at int
}

func (w wrong) String() string { return fmt.Sprintf("%v at %d", w.e, w.at) }

// parse is what Parse tells: a part, or what is wrong.
func parse(t *testing.T, s string) (api.Part, wrong) {
	t.Helper()
	p, e := ere.Parse([]byte(s))
	if e == nil {
		return p, wrong{}
	}
	var f *api.Fault
	var number api.Errno
	if !errors.As(e, &f) || !errors.As(e, &number) || !errors.Is(e, number) {
		t.Fatalf("%.80q: %v is no Fault of a number", s, e)
	}
	if shown(p) != shown(api.Part{}) {
		t.Errorf("%.80q: %s beside an error", s, shown(p))
	}
	return p, wrong{number, f.At}
}

func holds(t *testing.T, s string, want api.Part) {
	t.Helper()
	p, w := parse(t, s)
	if w != (wrong{}) {
		t.Errorf("%.80q: %v", s, w)
	} else if shown(p) != shown(want) {
		t.Errorf("%.80q: %.800s, not %.800s", s, shown(p), shown(want))
	}
}

func fails(t *testing.T, s string, e api.Errno, at int) {
	t.Helper()
	if p, w := parse(t, s); w == (wrong{}) {
		t.Errorf("%.80q: %.800s, not %v", s, shown(p), wrong{e, at})
	} else if w != (wrong{e, at}) {
		t.Errorf("%.80q: %v, not %v", s, w, wrong{e, at})
	}
}

// fault is what is to be told of an expression.
type fault struct {
	s  string
	e  api.Errno
	at int
}

func failAll(t *testing.T, l []fault) {
	t.Helper()
	for _, c := range l {
		fails(t, c.s, c.e, c.at)
	}
}

// meaning is an expression, and its part.
type meaning struct {
	s string
	p api.Part
}

func holdAll(t *testing.T, l []meaning) {
	t.Helper()
	for _, c := range l {
		holds(t, c.s, c.p)
		if c.p.Kind != api.PartNone && c.p.Kind != api.PartRow && c.p.Kind != api.PartOr { // it is a piece
			holds(t, c.s+"z", row(c.p, one('z')))
			holds(t, "z"+c.s, row(one('z'), c.p))
		}
		holds(t, "("+c.s+")", c.p)
		holds(t, "("+c.s+")?", maybe(c.p))
		holds(t, "("+c.s+")z", row(c.p, one('z')))
		if c.p.Kind != api.PartOr {
			holds(t, c.s+"|z", or(c.p, one('z')))
			holds(t, "z|"+c.s, or(one('z'), c.p))
		}
	}
}

func TestP41Ordinary(t *testing.T) {
	a, b, c, d := one('a'), one('b'), one('c'), one('d')
	holdAll(t, []meaning{
		{"a", a},
		{"ab", row(a, b)},
		{"abcd", row(a, b, c, d)},
		{"a|b", or(a, b)},
		{"a|b|c|d", or(a, b, c, d)},
		{"ab|cd", or(row(a, b), row(c, d))},
		{"a|b*", or(a, star(b))},
		{"a*", star(a)},
		{"a+", plus(a)},
		{"a?", maybe(a)},
		{"ab*", row(a, star(b))},
		{"a*b", row(star(a), b)},
		{"a*b+c?", row(star(a), plus(b), maybe(c))},
		{"(ab)*", star(row(a, b))},
		{"(a|b)*c", row(star(or(a, b)), c)},
		{"a(b|c)d", row(a, or(b, c), d)},
		{"(a)", a},
		{"((a))", a},
		{"(ab)c", row(row(a, b), c)},
		{"a(bc)", row(a, row(b, c))},
		{"(ab)(cd)", row(row(a, b), row(c, d))},
		{"(a|b)|c", or(or(a, b), c)},
		{"a|(b|c)", or(a, or(b, c))},
		{"(a|b)(c|d)", row(or(a, b), or(c, d))},
		{"((a|b)c|d)+", plus(or(row(or(a, b), c), d))},
		{"(a*)*", star(star(a))},
		{"(a*|b)?", maybe(or(star(a), b))},
		{".", every()},
		{".*", star(every())},
		{"a.c", row(a, every(), c)},
		{"..", row(every(), every())},
		{"[a-d]", of(charset.Range('a', 'd'))},
		{"[a-d]+", plus(of(charset.Range('a', 'd')))},
		{"[^a]", of(charset.Not(charset.Range('a', 'a')))},
		{"[]a]", of(charset.Or(charset.Range(']', ']'), charset.Range('a', 'a')))},
		{"[[:digit:]]", of(charset.Range('0', '9'))},
		{"[[:digit:]-]", of(charset.Or(charset.Range('0', '9'), charset.Range('-', '-')))},
		{"[(*|)]", of(charset.Or(charset.Range('(', '*'), charset.Or(charset.Range('|', '|'), api.Set{})))},
		{"[.]", one('.')},
		{"[^\x00-\xff]", of(api.Set{})},
		{"[a][b]", row(a, b)},
	})
}

func TestP41Empty(t *testing.T) {
	a := one('a')
	holdAll(t, []meaning{
		{"", none()},
		{"()", none()},
		{"(())", none()},
		{"|", or(none(), none())},
		{"||", or(none(), none(), none())},
		{"a|", or(a, none())},
		{"|a", or(none(), a)},
		{"a||a", or(a, none(), a)},
		{"|a|", or(none(), a, none())},
		{"(|)", or(none(), none())},
		{"(|)|", or(or(none(), none()), none())},
		{"()|()", or(none(), none())},
		{"()a", row(none(), a)},
		{"a()", row(a, none())},
		{"()()", row(none(), none())},
		{"()*", star(none())},
		{"(|a)+", plus(or(none(), a))},
		{"()+a", row(plus(none()), a)},
		{"a(|)a", row(a, or(none(), none()), a)},
	})
	if p, e := ere.Parse(nil); e != nil || shown(p) != shown(none()) {
		t.Errorf("nil: %v %v", p, e)
	}
}

// TestP41EveryByte: each byte for itself, but those that the grammar takes for something else; each one behind a \.
func TestP41EveryByte(t *testing.T) {
	for i := range 256 {
		c := byte(i)
		s := string([]byte{c})
		switch s {
		case "*", "+", "?":
			fails(t, s, api.ErrForm, 0)
		case ")":
			fails(t, s, api.ErrForm, 0)
		case "(", "[", `\`:
			fails(t, s, api.ErrEnd, 1)
		case "|", ".", "^", "$": // told elsewhere
		default:
			holds(t, s, one(c))
			holds(t, "a"+s+"b", letters("a"+s+"b"))
			holds(t, "("+s+"|a)", or(one(c), one('a')))
			holds(t, s+"*", star(one(c)))
			holds(t, "a*"+s, row(star(one('a')), one(c)))
		}
		want := c
		if n := strings.IndexByte("ntrfvab", c); n >= 0 {
			want = "\n\t\r\f\v\a\b"[n]
		}
		holds(t, `\`+s, one(want))
		holds(t, `\`+s+"*", star(one(want)))
		holds(t, `a\`+s+"b", row(one('a'), one(want), one('b')))
		holds(t, `(\`+s+")", one(want))
	}
	holds(t, "]", one(']'))
	holds(t, "}", one('}'))
	holds(t, "a]}b", letters("a]}b"))
	holds(t, "]*}+", row(star(one(']')), plus(one('}'))))
	holds(t, "\x00\xff\n", letters("\x00\xff\n"))
	holds(t, "é", letters("\xc3\xa9"))
}

// TestP41Ends: ^ and $ are atoms wherever they stand.
func TestP41Ends(t *testing.T) {
	a := one('a')
	holdAll(t, []meaning{
		{"^", begin()},
		{"$", end()},
		{"^$", row(begin(), end())},
		{"$^", row(end(), begin())},
		{"^a$", row(begin(), a, end())},
		{"a^a", row(a, begin(), a)},
		{"a$a", row(a, end(), a)},
		{"^|$", or(begin(), end())},
		{"(^)a", row(begin(), a)},
		{"(^a|a$)", or(row(begin(), a), row(a, end()))},
		{"^*", star(begin())},
		{"$+", plus(end())},
		{"^?$*", row(maybe(begin()), star(end()))},
		{"^{2}", repeat(2, 2, begin())},
		{"a${1,}", row(a, repeat(1, -1, end()))},
		{"^^", row(begin(), begin())},
		{`\^\$`, letters("^$")},
		{"[$^]", of(charset.Or(charset.Range('$', '$'), charset.Range('^', '^')))},
	})
}

func TestP41Signs(t *testing.T) {
	a := one('a')
	holdAll(t, []meaning{
		{"a**", star(star(a))},
		{"a+?", maybe(plus(a))},
		{"a?+", plus(maybe(a))},
		{"a*+?", maybe(plus(star(a)))},
		{"a{2}{3}", repeat(3, 3, repeat(2, 2, a))},
		{"a*{2,}", repeat(2, -1, star(a))},
		{"a{2,3}?", maybe(repeat(2, 3, a))},
		{"(a*)*", star(star(a))},
	})
}

// TestP41Intervals: each form, and each number of digits.
func TestP41Intervals(t *testing.T) {
	a := one('a')
	holdAll(t, []meaning{
		{"a{0}", repeat(0, 0, a)},
		{"a{1}", repeat(1, 1, a)},
		{"a{2}", repeat(2, 2, a)},
		{"a{02}", repeat(2, 2, a)},
		{"a{002}", repeat(2, 2, a)},
		{"a{000}", repeat(0, 0, a)},
		{"a{10}", repeat(10, 10, a)},
		{"a{99}", repeat(99, 99, a)},
		{"a{100}", repeat(100, 100, a)},
		{"a{255}", repeat(255, 255, a)},
		{"a{0,}", repeat(0, -1, a)},
		{"a{1,}", repeat(1, -1, a)},
		{"a{2,}", repeat(2, -1, a)},
		{"a{255,}", repeat(255, -1, a)},
		{"a{0,0}", repeat(0, 0, a)},
		{"a{0,1}", repeat(0, 1, a)},
		{"a{2,2}", repeat(2, 2, a)},
		{"a{2,3}", repeat(2, 3, a)},
		{"a{9,10}", repeat(9, 10, a)},
		{"a{99,100}", repeat(99, 100, a)},
		{"a{002,003}", repeat(2, 3, a)},
		{"a{0,255}", repeat(0, 255, a)},
		{"a{255,255}", repeat(255, 255, a)},
		{".{2}", repeat(2, 2, every())},
		{"[a]{2}", repeat(2, 2, a)},
		{"(a|a){2}", repeat(2, 2, or(a, a))},
		{`\{{2}`, repeat(2, 2, one('{'))},
	})
}

// TestP41BraceAsByte: a { where an atom begins, and one behind an atom that no interval begins.
func TestP41BraceAsByte(t *testing.T) {
	for _, s := range []string{
		"a{x", "a{", "a{}", "a{,}", "a{,2}", "a{1", "a{1,", "a{1,2", "a{1x}", "a{1,x}", "a{1,2x}", "a{x1}", "a{1 }", "a{ 1}", "a{-1}", "a{1;2}", "a{1,,2}", "a{1,2,3}",
		"a{1234}", "a{0001}", "a{1234,}", "a{1,1234}", "a{1,0002}", "a{1234,1235}", "a{0000}", "a{1/}", "a{1:}", "a{12,34]",
		"{x", "{1x}", "{,}", "{}", "{{", "{{{", "{a}", "{2}", "{2,3}", "{2,}", "{256}", "{3,2}", "{1234}", "a{{", "a{{x}}", "{{}}",
	} {
		holds(t, s, letters(s))
		holds(t, "("+s+")", letters(s))
		holds(t, s+"|b", or(letters(s), one('b')))
	}
	brace, a := one('{'), one('a')
	holdAll(t, []meaning{
		{"{", brace},
		{"{*", star(brace)},
		{"{{2}", repeat(2, 2, brace)},
		{"a{{2}", row(a, repeat(2, 2, brace))},
		{"a{+", row(a, plus(brace))},
		{"a{1{2}", row(a, brace, repeat(2, 2, one('1')))},
		{"a{,{0,9}", row(a, brace, repeat(0, 9, one(',')))},
		{"a*{", row(star(a), brace)},
		{"a{2}{", row(repeat(2, 2, a), brace)},
		{"a{2}}", row(repeat(2, 2, a), one('}'))},
		{"a{2}{x}", row(repeat(2, 2, a), brace, one('x'), one('}'))},
		{"a|{2}", or(a, letters("{2}"))},
		{"({2})", letters("{2}")},
		{"({)", brace},
		{"(a){", row(a, brace)},
	})
}

func TestP41NothingAhead(t *testing.T) {
	for _, sign := range []string{"*", "+", "?"} {
		for _, ahead := range []string{"", "|", "a|", "(", "a(", "a*|", "(a)|", "a|b|", "((", "(a|", "(|", "^|", "()|"} {
			fails(t, ahead+sign, api.ErrForm, len(ahead))
			fails(t, ahead+sign+"a", api.ErrForm, len(ahead))
			fails(t, ahead+sign+")", api.ErrForm, len(ahead))
			fails(t, ahead+sign+sign, api.ErrForm, len(ahead))
		}
	}
}

func TestP41ClosesNothing(t *testing.T) {
	failAll(t, []fault{
		{")", api.ErrForm, 0},
		{"a)", api.ErrForm, 1},
		{"a|)", api.ErrForm, 2},
		{"(a))", api.ErrForm, 3},
		{"(a))b", api.ErrForm, 3},
		{"())(", api.ErrForm, 2},
		{"a*)", api.ErrForm, 2},
		{"a{2})", api.ErrForm, 4},
		{"a{2)", api.ErrForm, 3},
		{"[)])", api.ErrForm, 3},
		{`\))`, api.ErrForm, 2},
	})
}

func TestP41NotEnded(t *testing.T) {
	failAll(t, []fault{
		{"(", api.ErrEnd, 1},
		{"(a", api.ErrEnd, 2},
		{"(a|", api.ErrEnd, 3},
		{"(a|b", api.ErrEnd, 4},
		{"(a*", api.ErrEnd, 3},
		{"((a)", api.ErrEnd, 4},
		{"a(b(c)d", api.ErrEnd, 7},
		{"(a{2", api.ErrEnd, 4},
		{`(\)`, api.ErrEnd, 3},
		{"([)]", api.ErrEnd, 4},
		{`\`, api.ErrEnd, 1},
		{`a\`, api.ErrEnd, 2},
		{`\\\`, api.ErrEnd, 3},
		{`(\`, api.ErrEnd, 2},
		{`a*\`, api.ErrEnd, 3},
		{`a|\`, api.ErrEnd, 3},
	})
}

// TestP41Brackets: what is wrong in a bracket expression is told at its place in the whole.
func TestP41Brackets(t *testing.T) {
	for _, c := range []fault{
		{"[", api.ErrEnd, 1},
		{"[]", api.ErrEnd, 2},
		{"[^]", api.ErrEnd, 3},
		{"[a", api.ErrEnd, 2},
		{`[a\`, api.ErrEnd, 3},
		{"[a-", api.ErrEnd, 3},
		{"[[:digit:]", api.ErrEnd, 10},
		{"[[:digit]", api.ErrEnd, 9},
		{"[[:x:]]", api.ErrName, 1},
		{"[a[:Digit:]]", api.ErrName, 2},
		{"[b-a]", api.ErrForm, 1},
		{"[^xb-a]", api.ErrForm, 3},
		{"[a-[:digit:]]", api.ErrForm, 1},
		{"[[:digit:]--[:alpha:]]", api.ErrForm, 10},
	} {
		for _, ahead := range []string{"", "a", "a|", "(", "x*(y|", "[a]", `\[`, "a{2}", "a{2"} {
			fails(t, ahead+c.s, c.e, c.at+len(ahead))
		}
	}
}

func TestP41Bounds(t *testing.T) {
	for _, c := range []string{"{256}", "{256,}", "{256,256}", "{0,256}", "{255,256}", "{999}", "{999,}", "{0,999}", "{1,0}", "{3,2}", "{03,002}", "{255,254}", "{300,2}"} {
		fails(t, "a"+c, api.ErrLarge, 1)
		fails(t, "ab"+c+"c", api.ErrLarge, 2)
		fails(t, "(a|b)"+c, api.ErrLarge, 5)
		fails(t, "(a"+c, api.ErrLarge, 2)
		fails(t, "a*"+c, api.ErrLarge, 2)
		fails(t, "a{2}"+c, api.ErrLarge, 4)
		fails(t, "{"+c, api.ErrLarge, 1)
		holds(t, c, letters(c)) // an atom begins here
		holds(t, "(a|"+c+")", or(one('a'), letters(c)))
	}
}

func TestP41ManySigns(t *testing.T) {
	for _, sign := range []string{"*", "+", "?", "{2}", "{2,}", "{2,3}"} {
		eight := "a" + strings.Repeat(sign, 8)
		if _, w := parse(t, eight); w != (wrong{}) {
			t.Errorf("%s: %v", eight, w)
		}
		for _, ninth := range []string{"*", "+", "?", "{2}", "{2,}", "{2,3}", "{255}"} {
			fails(t, eight+ninth, api.ErrDeep, len(eight))
			fails(t, eight+ninth+"*", api.ErrDeep, len(eight))
			fails(t, "b("+eight+ninth+")", api.ErrDeep, len(eight)+2)
		}
		for _, ninth := range []string{"{256}", "{3,2}", "{0,256}", "{256,}"} {
			fails(t, eight+ninth, api.ErrLarge, len(eight))
		}
		for _, ninth := range []string{"{", "{x", "{1234}", "{,2}", "{2"} {
			p, w := parse(t, eight+ninth)
			if w != (wrong{}) || p.Kind != api.PartRow || len(p.L) != len(ninth)+1 {
				t.Errorf("%s%s: %s %v", eight, ninth, shown(p), w)
			}
		}
		for _, s := range []string{eight + eight, "(" + eight + ")" + eight[1:], eight + "|" + eight} { // each atom has its own eight
			if _, w := parse(t, s); w != (wrong{}) {
				t.Errorf("%s: %v", s, w)
			}
		}
		fails(t, "("+eight+")"+eight[1:]+"*", api.ErrDeep, 2*len(eight)+1)
	}
}

func TestP41Deep(t *testing.T) {
	open := func(n int) string { return strings.Repeat("(", n) }
	shut := func(n int) string { return strings.Repeat(")", n) }
	holds(t, open(64)+"a"+shut(64), one('a'))
	holds(t, open(64)+shut(64), none())
	holds(t, strings.Repeat("()", 500), row(make([]api.Part, 500)...))
	holds(t, open(63)+"(a)(b)"+shut(63), row(one('a'), one('b')))
	failAll(t, []fault{
		{open(65) + "a" + shut(65), api.ErrDeep, 64},
		{open(65), api.ErrDeep, 64},
		{open(1000), api.ErrDeep, 64},
		{"a" + open(65), api.ErrDeep, 65},
		{open(64) + "a|(b)" + shut(64), api.ErrDeep, 66},
		{open(64), api.ErrEnd, 64},
		{open(64) + shut(63), api.ErrEnd, 127},
		{open(64) + shut(65), api.ErrForm, 128},
		{open(64) + "*", api.ErrForm, 64},
		{open(64) + ")(", api.ErrEnd, 66},
		{open(64) + ")((", api.ErrDeep, 66},
		{"()" + open(65), api.ErrDeep, 66},
	})
	holds(t, strings.Repeat(`\(`, 70), letters(strings.Repeat("(", 70))) // these open nothing
	holds(t, strings.Repeat("[(]", 70), letters(strings.Repeat("(", 70)))
	deep := one('a')
	s := "a"
	for range 64 {
		deep, s = row(one('b'), or(deep, one('c'))), "b("+s+"|c)"
	}
	holds(t, s, deep)
}

func TestP41Large(t *testing.T) {
	a := func(n int) string { return strings.Repeat("a", n) }
	holds(t, a(1000), letters(a(1000)))
	holds(t, a(999)+"*", row(append(letters(a(998)).L, star(one('a')))...))
	holds(t, strings.Repeat("|", 1000), or(make([]api.Part, 1001)...))
	failAll(t, []fault{ // the length is told ahead of all else
		{a(1001), api.ErrLarge, 0},
		{a(100000), api.ErrLarge, 0},
		{"*" + a(1000), api.ErrLarge, 0},
		{")" + a(1000), api.ErrLarge, 0},
		{strings.Repeat("(", 1001), api.ErrLarge, 0},
		{"[b-a]" + a(996), api.ErrLarge, 0},
		{"a{256}" + a(995), api.ErrLarge, 0},
		{"*" + a(999), api.ErrForm, 0},
		{a(999) + ")", api.ErrForm, 999},
		{"(" + a(999), api.ErrEnd, 1000},
		{a(999) + `\`, api.ErrEnd, 1000},
		{a(994) + "a{256}", api.ErrLarge, 995},
	})
}

// TestP41Left: of two things that are wrong the left one is told.
func TestP41Left(t *testing.T) {
	failAll(t, []fault{
		{"*)", api.ErrForm, 0},
		{")*", api.ErrForm, 0},
		{"a)[b-a]", api.ErrForm, 1},
		{"[b-a])", api.ErrForm, 1},
		{"(*", api.ErrForm, 1},
		{"(a{256}", api.ErrLarge, 2},
		{"a{256})", api.ErrLarge, 1},
		{"a{256}[b-a]", api.ErrLarge, 1},
		{"[[:x:]]a{256}", api.ErrName, 1},
		{"[b-a", api.ErrForm, 1},
		{"([[:x:]", api.ErrName, 2},
		{`(a)*|+\`, api.ErrForm, 5},
		{"a{3,2}{256}", api.ErrLarge, 1},
		{"a{2}{256}*********", api.ErrLarge, 4},
		{"a********* )", api.ErrDeep, 9},
		{"a)" + strings.Repeat("(", 65), api.ErrForm, 1},
		{strings.Repeat("(", 65) + "*", api.ErrDeep, 64},
		{strings.Repeat("(", 63) + "[(", api.ErrEnd, 65},
		{strings.Repeat("(", 64) + "a{256}(", api.ErrLarge, 65},
	})
}

// TestP41New: an answer may be written over and grown, and nothing else changes by it.
func TestP41New(t *testing.T) {
	b := []byte("(ab|c)(ab|c)+|(ab|c)")
	was := string(b)
	first, e := ere.Parse(b)
	if e != nil || string(b) != was {
		t.Fatalf("%v %q", e, b)
	}
	second, _ := ere.Parse(b)
	want := shown(second)
	for i := range b {
		b[i] = 'x'
	}
	if shown(first) != want || shown(second) != want {
		t.Error("an answer hangs on the bytes that were handed in")
	}
	others := shown(first.L[1])
	growAll(&first.L[0])
	if shown(first.L[1]) != others || shown(second) != want {
		t.Error("lists share memory")
	}
}

// growAll writes behind each list and over each part of a part.
func growAll(p *api.Part) {
	grown := append(p.L, one('y'), one('y'), one('y'))
	clear(grown[len(p.L):cap(grown)])
	for i := range p.L {
		growAll(&p.L[i])
		p.L[i] = one('z')
	}
}

// TestP41Behind: what lies behind the bytes in their memory isn't read.
func TestP41Behind(t *testing.T) {
	for _, c := range []struct {
		s string
		n int
		w wrong
	}{
		{"a*", 1, wrong{}}, {"a)", 1, wrong{}}, {"a{256}", 5, wrong{}}, {`\\`, 1, wrong{api.ErrEnd, 1}}, {"(a)", 2, wrong{api.ErrEnd, 2}}, {"[a]", 2, wrong{api.ErrEnd, 2}}, {"[[:digit:]]", 9, wrong{api.ErrEnd, 9}}, {"", 0, wrong{}}, {"a{2}", 2, wrong{}}, {"a{25}", 4, wrong{}},
	} {
		memory := []byte(c.s)
		p, w := parse(t, c.s[:c.n])
		q, e := ere.Parse(memory[:c.n])
		if w != c.w || (e == nil) != (w == wrong{}) || shown(p) != shown(q) || string(memory) != c.s {
			t.Errorf("%q[:%d]: %v %v", c.s, c.n, w, e)
		}
	}
}
