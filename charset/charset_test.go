package charset_test

import (
	"math"
	"strings"
	"testing"

	"fieldfare/api"
	"fieldfare/charset"
)

// The tests tell a set by the text of its bytes, put into it bit by bit, or by a predicate of each byte.

func setOf(bytes string) api.Set {
	var s api.Set
	for _, c := range []byte(bytes) {
		s[c>>6] |= uint64(1) << (c & 63)
	}
	return s
}

func setWhere(in func(c byte) bool) api.Set {
	var s api.Set
	for i := range 256 {
		if in(byte(i)) {
			s[i>>6] |= uint64(1) << (i & 63)
		}
	}
	return s
}

// bytesOf are the bytes of a set, rising.
func bytesOf(s api.Set) string {
	var l []byte
	for i := range 256 {
		if s[i>>6]&(uint64(1)<<(i&63)) != 0 {
			l = append(l, byte(i))
		}
	}
	return string(l)
}

// sets are some of each kind: empty, whole, of one byte, on words' edges, mixed.
func sets() []api.Set {
	l := []api.Set{
		{}, {math.MaxUint64, math.MaxUint64, math.MaxUint64, math.MaxUint64},
		{1}, {1 << 63}, {0, 1}, {0, 1 << 63}, {0, 0, 1}, {0, 0, 0, 1}, {0, 0, 0, 1 << 63},
		{0, math.MaxUint64}, {math.MaxUint64, 0, math.MaxUint64},
		setOf("abc"), setOf("xyz\x00\xff"), setWhere(func(c byte) bool { return c%3 == 0 }),
	}
	word := uint64(12345)
	for range 20 {
		var s api.Set
		for i := range s {
			word = word*6364136223846793005 + 1442695040888963407
			s[i] = word ^ word>>29
		}
		l = append(l, s)
	}
	return l
}

func TestP31Range(t *testing.T) {
	for from := range 256 {
		for to := range 256 {
			w := setWhere(func(c byte) bool { return byte(from) <= c && c <= byte(to) })
			if got := charset.Range(byte(from), byte(to)); got != w {
				t.Fatalf("%x to %x: %q, not %q", from, to, bytesOf(got), bytesOf(w))
			}
		}
	}
	for _, c := range []struct {
		from, to byte
		want     string
	}{
		{'a', 'e', "abcde"},
		{'a', 'a', "a"},
		{0, 0, "\x00"},
		{255, 255, "\xff"},
		{254, 255, "\xfe\xff"},
		{62, 65, ">?@A"},
		{'b', 'a', ""},
		{255, 0, ""},
		{1, 0, ""},
	} {
		if got := bytesOf(charset.Range(c.from, c.to)); got != c.want {
			t.Errorf("%x to %x: %q, not %q", c.from, c.to, got, c.want)
		}
	}
}

func TestP31Has(t *testing.T) {
	for _, s := range sets() {
		in := bytesOf(s)
		for i := range 256 {
			c := string([]byte{byte(i)})
			if got := charset.Has(s, byte(i)); got != strings.Contains(in, c) {
				t.Fatalf("%q in %q: %v", c, in, got)
			}
		}
	}
}

func TestP31OrNotCount(t *testing.T) {
	for _, a := range sets() {
		if got := charset.Count(a); got != len(bytesOf(a)) {
			t.Errorf("%q: %d", bytesOf(a), got)
		}
		others := setWhere(func(c byte) bool { return !strings.Contains(bytesOf(a), string([]byte{c})) })
		if got := charset.Not(a); got != others {
			t.Errorf("not %q: %q", bytesOf(a), bytesOf(got))
		}
		for _, b := range sets() {
			if got, w := charset.Or(a, b), setOf(bytesOf(a)+bytesOf(b)); got != w {
				t.Errorf("%q or %q: %q", bytesOf(a), bytesOf(b), bytesOf(got))
			}
		}
	}
	all := charset.Not(api.Set{})
	if charset.Count(all) != 256 || charset.Count(charset.Not(all)) != 0 || charset.Not(all) != (api.Set{}) {
		t.Errorf("all bytes: %d", charset.Count(all))
	}
}

// classes are the document's classes: each byte's, by its number.
func classes() map[string]func(c byte) bool {
	upper := func(c byte) bool { return 0x41 <= c && c <= 0x5a }
	lower := func(c byte) bool { return 0x61 <= c && c <= 0x7a }
	digit := func(c byte) bool { return 0x30 <= c && c <= 0x39 }
	alnum := func(c byte) bool { return upper(c) || lower(c) || digit(c) }
	return map[string]func(c byte) bool{
		"alpha":  func(c byte) bool { return upper(c) || lower(c) },
		"digit":  digit,
		"alnum":  alnum,
		"upper":  upper,
		"lower":  lower,
		"space":  func(c byte) bool { return 0x09 <= c && c <= 0x0d || c == 0x20 },
		"blank":  func(c byte) bool { return c == 0x09 || c == 0x20 },
		"punct":  func(c byte) bool { return 0x21 <= c && c <= 0x7e && !alnum(c) },
		"print":  func(c byte) bool { return 0x20 <= c && c <= 0x7e },
		"graph":  func(c byte) bool { return 0x21 <= c && c <= 0x7e },
		"cntrl":  func(c byte) bool { return c <= 0x1f || c == 0x7f },
		"xdigit": func(c byte) bool { return digit(c) || 0x41 <= c && c <= 0x46 || 0x61 <= c && c <= 0x66 },
	}
}

func TestP31Class(t *testing.T) {
	for name, in := range classes() {
		s, ok := charset.Class(name)
		if w := setWhere(in); !ok || s != w {
			t.Errorf("%s: %q, %v; not %q", name, bytesOf(s), ok, bytesOf(w))
		}
	}
}

// TestP31ClassEdges: of each class the first bytes and the last ones of its ranges, and those beside them.
func TestP31ClassEdges(t *testing.T) {
	for _, c := range []struct {
		name, in, out string
		count         int
	}{
		{"alpha", "AZaz", "@[`{09 \x80\xe4", 52},
		{"digit", "09", "/:aA\xb2", 10},
		{"alnum", "09AZaz", "/:@[`{_\xff", 62},
		{"upper", "AZ", "@[az", 26},
		{"lower", "az", "`{AZ", 26},
		{"space", "\x09\x0a\x0b\x0c\x0d\x20", "\x08\x0e\x1f\x21\x00\x85\xa0", 6},
		{"blank", "\x09\x20", "\x08\x0a\x0d\x1f\x21\xa0", 2},
		{"punct", "!/:@[`{~_^-\\]", " 09AZaz\x7f\xa1", 32},
		{"print", " ~aA0!", "\x1f\x7f\t\n\x80", 95},
		{"graph", "!~aA0", " \x1f\x20\x7f\x80", 94},
		{"cntrl", "\x00\x1f\x7f\t\n", " ~\x80\xff", 33},
		{"xdigit", "09AFaf", "/:@G`gz", 22},
	} {
		s, ok := charset.Class(c.name)
		if !ok || len(bytesOf(s)) != c.count {
			t.Errorf("%s: %d bytes, %v", c.name, len(bytesOf(s)), ok)
		}
		for _, b := range []byte(c.in) {
			if !charset.Has(s, b) {
				t.Errorf("%s hasn't %x", c.name, b)
			}
		}
		for _, b := range []byte(c.out) {
			if charset.Has(s, b) {
				t.Errorf("%s has %x", c.name, b)
			}
		}
	}
}

func TestP31ClassNone(t *testing.T) {
	long := strings.Repeat("alpha", 1<<16)
	for _, name := range []string{"", "word", "Alpha", "ALPHA", "alph", "alphaa", "alpha ", " alpha", "alpha\x00", ":alpha:", "[:alpha:]", "digits", "x", "ascii", "\xff", long} {
		if s, ok := charset.Class(name); ok || s != (api.Set{}) {
			t.Errorf("%.40q is no class: %q, %v", name, bytesOf(s), ok)
		}
	}
}

func TestP31Escape(t *testing.T) {
	w := map[byte]byte{'n': 0x0a, 't': 0x09, 'r': 0x0d, 'f': 0x0c, 'v': 0x0b, 'a': 0x07, 'b': 0x08}
	for i := range 256 {
		c := byte(i)
		want, ok := w[c]
		if !ok {
			want = c
		}
		if got := charset.Escape(c); got != want {
			t.Errorf("\\%c: %x, not %x", c, got, want)
		}
	}
	for _, c := range []byte("\\]-[^/\"0xNTRFVAB\n\x00\xff") {
		if got := charset.Escape(c); got != c {
			t.Errorf("\\%c: %x", c, got)
		}
	}
}

func TestP33NotOfNot(t *testing.T) {
	for _, s := range sets() {
		kept := s
		if got := charset.Not(charset.Not(s)); got != s {
			t.Errorf("%q: %q", bytesOf(s), bytesOf(got))
		}
		if charset.Count(s)+charset.Count(charset.Not(s)) != 256 {
			t.Errorf("%q, and what isn't in it: not 256", bytesOf(s))
		}
		if charset.Or(s, charset.Not(s)) != setWhere(func(byte) bool { return true }) || charset.Or(s, s) != s {
			t.Errorf("%q, or what isn't in it: not all", bytesOf(s))
		}
		if s != kept {
			t.Errorf("%q was changed: %q", bytesOf(kept), bytesOf(s))
		}
	}
}
