package charset_test

import (
	"bytes"
	"errors"
	"fmt"
	"math"
	"regexp"
	"strings"
	"testing"

	"fieldfare/api"
	"fieldfare/charset"
)

// read is what Bracket answers: the bytes of the set, rising, and how many bytes it read; or what is wrong, and where.
type read struct {
	in string
	n  int
	e  api.Errno
	at int
}

func (r read) String() string {
	if r.e != 0 {
		return fmt.Sprintf("%v at %d", r.e, r.at)
	}
	return fmt.Sprintf("%q, %d bytes", r.in, r.n)
}

func bracket(t *testing.T, b []byte, at int) read {
	t.Helper()
	s, n, e := charset.Bracket(b, at)
	if e == nil {
		return read{in: bytesOf(s), n: n}
	}
	var f *api.Fault
	var number api.Errno
	if !errors.As(e, &f) || !errors.As(e, &number) || !errors.Is(e, number) {
		t.Fatalf("%.80q at %d: %v is no Fault of a number", b, at, e)
	}
	if s != (api.Set{}) || n != 0 {
		t.Errorf("%.80q at %d: %q, %d beside an error", b, at, bytesOf(s), n)
	}
	return read{e: number, at: f.At}
}

func right(in string, n int) read         { return read{in: bytesOf(setOf(in)), n: n} }
func wrong(e api.Errno, at int) read      { return read{e: e, at: at} }
func others(in string, n int) read        { return read{in: bytesOf(charset.Not(setOf(in))), n: n} }
func classBytes(name string) string       { return bytesOf(setWhere(classes()[name])) }
func span(from, to byte) (text string)    { return bytesOf(charset.Range(from, to)) }
func shifted(r read, by, length int) read { return read{r.in, r.n, r.e, moved(r, by, length)} }

// moved is where a fault stands when by bytes more stand ahead and length more in all; the end goes with the end.
func moved(r read, by, length int) int {
	switch r.e {
	case 0:
		return 0
	case api.ErrEnd:
		return r.at + length
	}
	return r.at + by
}

func hold(t *testing.T, s string, w read) {
	t.Helper()
	if got := bracket(t, []byte(s), 0); got != w {
		t.Errorf("%.80q: %v, not %v", s, got, w)
	}
}

type bracketCase struct {
	s string
	w read
}

func holdAll(t *testing.T, l []bracketCase) {
	t.Helper()
	for _, c := range l {
		hold(t, c.s, c.w)
		if c.w.e == 0 {
			hold(t, c.s+"x]", c.w)
			hold(t, c.s+"-z]", c.w)
		}
	}
}

func TestP32Ordinary(t *testing.T) {
	holdAll(t, []bracketCase{
		{"[a-c]", right("abc", 5)},
		{"[]^]", right("]^", 4)},
		{"[abc]", right("abc", 5)},
		{"[cba]", right("abc", 5)},
		{"[aaa]", right("a", 5)},
		{"[a]", right("a", 3)},
		{"[^a]", others("a", 4)},
		{"[^a-c]", others("abc", 6)},
		{"[a-cx-z0-9_]", right("abcxyz0123456789_", 12)},
		{"[a-cb-e]", right("abcde", 8)},
		{"[[:digit:]]", right("0123456789", 11)},
		{"[^[:digit:]]", others("0123456789", 12)},
		{"[[:digit:][:upper:]_]", right(classBytes("digit")+classBytes("upper")+"_", 21)},
		{"[[:alpha:][:alpha:]]", right(classBytes("alpha"), 20)},
		{"[x[:blank:]y]", right("xy\t ", 13)},
		{"[a-c[:digit:]d-f]", right("abcdef0123456789", 17)},
		{"[.*+?(){}|$]", right(".*+?(){}|$", 12)},
		{"[a b]", right("a b", 5)},
		{"[\x00\xff\n]", right("\x00\xff\n", 5)},
		{"[\x00-\xff]", right(span(0, 255), 5)},
		{"[^\x00-\xff]", right("", 6)},
		{"[\x80-\x82]", right("\x80\x81\x82", 5)},
		{"[é]", right("\xc3\xa9", 4)},
	})
}

func TestP32Classes(t *testing.T) {
	for name := range classes() {
		whole := classBytes(name)
		n := len(name)
		hold(t, "[[:"+name+":]]", right(whole, n+6))
		hold(t, "[^[:"+name+":]]]", others(whole, n+7))
		hold(t, "[\xfe[:"+name+":]-]", right(whole+"\xfe-", n+8))
		hold(t, "[[:"+name+":]-\xfe]", right(whole+"\xfe-", n+8))
		hold(t, "[^[:"+name+":]-[:"+name+":]]", others(whole+"-", 2*n+12))
		hold(t, "[[:"+name+":]", wrong(api.ErrEnd, n+5))
		hold(t, "[[:"+name+":]-\xfe", wrong(api.ErrEnd, n+7))
		hold(t, "[["+name+":]]", right("["+name+":", n+4)) // no [:, so that the first ] closes it
		hold(t, "[:"+name+":]]", right(":"+name, n+4))
	}
}

// TestP32First: a ] as the first member is a byte, and may begin a range; a ^ is one that isn't first.
func TestP32First(t *testing.T) {
	holdAll(t, []bracketCase{
		{"[]]", right("]", 3)},
		{"[^]]", others("]", 4)},
		{"[]]]", right("]", 3)},
		{"[]a]", right("]a", 4)},
		{"[^]a]", others("]a", 5)},
		{"[a]]", right("a", 3)},
		{"[]-a]", right("]^_`a", 5)},
		{"[^]-a]", others("]^_`a", 6)},
		{"[]-]", right("]-", 4)},
		{"[^]-]", others("]-", 5)},
		{"[]--]", wrong(api.ErrForm, 1)},
		{"[^]--]", wrong(api.ErrForm, 2)},
		{"[]-^]", right("]^", 5)},
		{"[]-\\]]", right("]", 6)},
		{"[][]", right("][", 4)},
		{"[][:digit:]]", right("]0123456789", 12)},
		{"[a^]", right("a^", 4)},
		{"[^^]", others("^", 4)},
		{"[^^^]", others("^", 5)},
		{"[]^-a]", right("]^_`a", 6)},
		{"[a^-c]", right("a^_`bc", 6)},
		{"[^^-c]", others("^_`abc", 6)},
		{"[\\^a]", right("^a", 5)},
		{"[\\]]", right("]", 4)},
		{"[^\\]]", others("]", 5)},
		{"[^\\^]", others("^", 5)},
	})
}

// TestP32Minus: a - as the first member, as the last one, at a range's ends, and behind a range.
func TestP32Minus(t *testing.T) {
	holdAll(t, []bracketCase{
		{"[-]", right("-", 3)},
		{"[^-]", others("-", 4)},
		{"[-a]", right("-a", 4)},
		{"[^-a]", others("-a", 5)},
		{"[a-]", right("a-", 4)},
		{"[^a-]", others("a-", 5)},
		{"[a-c-]", right("abc-", 6)},
		{"[--]", right("-", 4)},
		{"[---]", right("-", 5)},
		{"[----]", right("-", 6)},
		{"[--/]", right("-./", 5)},
		{"[^--/]", others("-./", 6)},
		{"[+--]", right("+,-", 5)},
		{"[^+--]", others("+,-", 6)},
		{"[x+--]", right("x+,-", 6)},
		{"[+--/]", right("+,-/", 6)},
		{"[+---]", right("+,-", 6)},
		{"[a--]", wrong(api.ErrForm, 1)},
		{"[a-c-e]", right("abc-e", 7)},
		{"[a-c--/]", right("abc-./", 8)},
		{"[a-c-]-e]", right("abc-", 6)},
		{"[a\\-c]", right("a-c", 6)},
		{"[+-\\-]", right("+,-", 6)},
		{"[\\--/]", right("-./", 6)},
		{"[\\-]", right("-", 4)},
		{"[[:digit:]-]", right("0123456789-", 12)},
		{"[-[:digit:]]", right("0123456789-", 12)},
		{"[%--[:digit:]]", right("0123456789%&'()*+,-", 14)},
	})
}

// TestP32ClassMinus: a class is a member of its own; a - behind it is the next one, or begins a range of its own.
func TestP32ClassMinus(t *testing.T) {
	const digits = "0123456789"
	holdAll(t, []bracketCase{
		{"[[:digit:]-z]", right(digits+"-z", 13)},
		{"[x[:digit:]-z]", right(digits+"x-z", 14)},
		{"[][:digit:]-a]", right(digits+"]-a", 14)},
		{"[^[:digit:]-z]", others(digits+"-z", 14)},
		{"[a-c[:digit:]-z]", right(digits+"abc-z", 16)},
		{"[[:upper:][:digit:]-z]", right(classBytes("upper")+digits+"-z", 22)},
		{"[[:digit:]-0]", right(digits+"-", 13)},
		{"[[:digit:]-\x00]", right(digits+"-\x00", 13)},
		{"[[:digit:]-\\]]", right(digits+"-]", 14)},
		{"[[:digit:]\\-z]", right(digits+"-z", 14)},
		{"[[:digit:]-[:digit:]]", right(digits+"-", 21)},
		{"[[:digit:]-[:alpha:]]", right(digits+"-"+classBytes("alpha"), 21)},
		{"[[:digit:]-[:alpha:]-]", right(digits+"-"+classBytes("alpha"), 22)},
		{"[[:digit:]-[]", right(digits+"-[", 13)},
		{"[[:digit:]-a-c]", right(digits+"-abc", 15)},
		{"[[:digit:]--]", right(digits+"-", 13)},
		{"[[:digit:]---]", right(digits+"-", 14)},
		{"[[:digit:]--/]", right(digits+"-./", 14)},
		{"[^[:digit:]--/]", others(digits+"-./", 15)},
		{"[[:digit:]--\\/]", right(digits+"-./", 15)},
		{"[[:digit:]--/-]", right(digits+"-./", 15)},
		{"[[:digit:]+--]", right(digits+"+,-", 14)},
		{"[[:digit:]--+]", wrong(api.ErrForm, 10)},
		{"[[:digit:]--[:alpha:]]", wrong(api.ErrForm, 10)},
		{"[[:digit:]--[:", wrong(api.ErrForm, 10)},
		{"[[:digit:]-c-a]", wrong(api.ErrForm, 11)},
		{"[[:digit:]-[:nope:]]", wrong(api.ErrName, 11)},
	})
	if got := bracket(t, []byte("\x00\x00[[:digit:]-\x00"), 2); got != wrong(api.ErrEnd, 14) {
		t.Errorf("an end behind a class: %v", got)
	}
}

func TestP32Escapes(t *testing.T) {
	holdAll(t, []bracketCase{
		{"[\\n\\t\\r\\f\\v\\a\\b]", right("\n\t\r\f\v\a\b", 16)},
		{"[^\\n]", others("\n", 5)},
		{"[\\\\]", right("\\", 4)},
		{"[\\]\\-\\\\]", right("]-\\", 8)},
		{"[\\[:digit:]]", right("[:digt", 11)},
		{"[\\x\\.\\0\\N]", right("x.0N", 10)},
		{"[\\\n]", right("\n", 4)},
		{"[\\\x00\\\xff]", right("\x00\xff", 6)},
		// At either end of a range they are the bytes that they stand for.
		{"[\\t-\\r]", right("\t\n\v\f\r", 7)},
		{"[\\a-\\b]", right("\a\b", 7)},
		{"[\\n-c]", right(span('\n', 'c'), 6)},
		{"[\x00-\\a]", right(span(0, 7), 6)},
		{"[\\n-\\n]", right("\n", 7)},
		{"[A-\\]]", right(span('A', ']'), 6)},
		{"[A-\\[:digit:]]", right(span('A', '[')+":digt", 13)},
		{"[\\[-a]", right("[\\]^_`a", 6)},
		{"[\\]-a]", right("]^_`a", 6)},
		{"[\\\\-a]", right("\\]^_`a", 6)},
		{"[A-\\\\]", right(span('A', '\\'), 6)},
		{"[\\a-c]", right(span(7, 'c'), 6)},
		{"[a-\\c]", right("abc", 6)},
		{"[a-\\n]", wrong(api.ErrForm, 1)},
		{"[b-\\a]", wrong(api.ErrForm, 1)},
		{"[x\\c-\\b]", wrong(api.ErrForm, 2)},
	})
}

func TestP32Open(t *testing.T) {
	holdAll(t, []bracketCase{
		{"[[]", right("[", 3)},
		{"[^[]", others("[", 4)},
		{"[a[]", right("a[", 4)},
		{"[[a]", right("[a", 4)},
		{"[[-a]", right("[\\]^_`a", 5)},
		{"[A-[]", right(span('A', '['), 5)},
		{"[A-[.]", right(span('A', '[')+".", 6)},
		{"[[.a.]]", right("[.a", 6)},
		{"[[=a=]]", right("[=a", 6)},
		{"[:]", right(":", 3)},
		{"[:a:]", right(":a", 5)},
		{"[a:[]", right("a:[", 5)},
		{"[[]:digit:]", right("[", 3)},
	})
}

func TestP32NoPlace(t *testing.T) {
	b := []byte("a[b]c[[:digit:]]")
	for _, at := range []int{math.MinInt, math.MinInt + 1, -1 << 32, -16, -1, 0, 2, 3, 4, 7, 14, 15, 16, 17, 1 << 32, math.MaxInt - 1, math.MaxInt} {
		if got := bracket(t, b, at); got != wrong(api.ErrArg, 0) {
			t.Errorf("at %d: %v", at, got)
		}
	}
	for at, w := range map[int]read{1: right("b", 3), 5: right("0123456789", 11), 6: right(":digt", 9)} {
		if got := bracket(t, b, at); got != w {
			t.Errorf("at %d: %v, not %v", at, got, w)
		}
	}
	for _, b := range [][]byte{nil, {}, []byte("]"), []byte("^a]"), []byte("x"), []byte("\\]")} {
		for at := -2; at < 4; at++ {
			if got := bracket(t, b, at); got != wrong(api.ErrArg, 0) {
				t.Errorf("%q at %d: %v", b, at, got)
			}
		}
	}
}

// TestP32Ends: bytes that end ahead of the ], each at their length.
func TestP32Ends(t *testing.T) {
	for _, s := range []string{
		"[", "[^", "[a", "[^a", "[ab", "[]", "[^]", "[]a", "[a-", "[^a-", "[]-", "[^]-", "[-", "[--", "[---", "[+--", "[a-c", "[a-c-", "[a^", "[^^",
		"[\\", "[^\\", "[a\\", "[a-\\", "[z-\\", "[\\]", "[^\\]", "[\\\\", "[\\n-", "[\\n-\\", "[A-\\]",
		"[[", "[^[", "[a[", "[[:", "[^[:", "[[:]", "[[:]]", "[[:a", "[[:digit", "[[:digit:", "[[:digit]", "[[:digit]]", "[[:nope", "[[:nope:", "[[:digit: ]]", "[[:-a]", "[[:\\:", "[x[:", "[a-c[:digit:",
		"[[:digit:]", "[^[:digit:]", "[[:digit:]a", "[[:digit:]-", "[[:digit:]-z", "[[:digit:]-\x00", "[[:digit:]-\\", "[[:digit:]-[:", "[[:digit:]--", "[[:digit:]--z", "[[:digit:][:", "[[:digit:][:alpha:]", "[A-[", "[[-",
	} {
		hold(t, s, wrong(api.ErrEnd, len(s)))
		ahead := "[x]\\"
		if got := bracket(t, []byte(ahead+s), len(ahead)); got != wrong(api.ErrEnd, len(ahead)+len(s)) {
			t.Errorf("%q behind %q: %v", s, ahead, got)
		}
	}
}

func TestP32NoClass(t *testing.T) {
	holdAll(t, []bracketCase{
		{"[[:nope:]]", wrong(api.ErrName, 1)},
		{"[^[:nope:]]", wrong(api.ErrName, 2)},
		{"[x[:nope:]]", wrong(api.ErrName, 2)},
		{"[a-c[:nope:]]", wrong(api.ErrName, 4)},
		{"[][:nope:]]", wrong(api.ErrName, 2)},
		{"[-[:nope:]]", wrong(api.ErrName, 2)},
		{"[[:digit:][:nope:]]", wrong(api.ErrName, 10)},
		{"[[::]]", wrong(api.ErrName, 1)},
		{"[[:]:]]", wrong(api.ErrName, 1)},
		{"[[:]]:]]", wrong(api.ErrName, 1)},
		{"[[:::]]", wrong(api.ErrName, 1)},
		{"[[:Digit:]]", wrong(api.ErrName, 1)},
		{"[[:^digit:]]", wrong(api.ErrName, 1)},
		{"[[: digit:]]", wrong(api.ErrName, 1)},
		{"[[:digit :]]", wrong(api.ErrName, 1)},
		{"[[:di\\git:]]", wrong(api.ErrName, 1)},
		{"[[:digit\x00:]]", wrong(api.ErrName, 1)},
		{"[[:a]b[:digit:]]", wrong(api.ErrName, 1)},
		{"[[:[:digit:]]", wrong(api.ErrName, 1)},
		// The first that is met from the left is told, not what is wrong behind it.
		{"[[:nope:]", wrong(api.ErrName, 1)},
		{"[[:nope:]c-a]", wrong(api.ErrName, 1)},
		{"[[:nope:]-z]", wrong(api.ErrName, 1)},
		{"[[:nope:][:", wrong(api.ErrName, 1)},
	})
}

func TestP32Ranges(t *testing.T) {
	holdAll(t, []bracketCase{
		{"[c-a]", wrong(api.ErrForm, 1)},
		{"[b-a]", wrong(api.ErrForm, 1)},
		{"[a-a]", right("a", 5)},
		{"[^c-a]", wrong(api.ErrForm, 2)},
		{"[xc-a]", wrong(api.ErrForm, 2)},
		{"[a-bc-a]", wrong(api.ErrForm, 4)},
		{"[[:digit:]c-a]", wrong(api.ErrForm, 10)},
		{"[\xff-\x00]", wrong(api.ErrForm, 1)},
		{"[\x80-\x7f]", wrong(api.ErrForm, 1)},
		{"[z-[]", wrong(api.ErrForm, 1)},
		{"[a-[.x.]]", wrong(api.ErrForm, 1)},
		// A class ends no range, known or not, ended or not.
		{"[a-[:digit:]]", wrong(api.ErrForm, 1)},
		{"[xa-[:digit:]]", wrong(api.ErrForm, 2)},
		{"[A-[:digit:]]", wrong(api.ErrForm, 1)},
		{"[^A-[:digit:]]", wrong(api.ErrForm, 2)},
		{"[\\t-[:digit:]]", wrong(api.ErrForm, 1)},
		{"[x\\t-[:digit:]]", wrong(api.ErrForm, 2)},
		{"[]-[:digit:]]", wrong(api.ErrForm, 1)},
		{"[--[:digit:]]", wrong(api.ErrForm, 1)},
		{"[A-[:nope:]]", wrong(api.ErrForm, 1)},
		{"[A-[:]", wrong(api.ErrForm, 1)},
		{"[A-[:x]", wrong(api.ErrForm, 1)},
		{"[A-[:", wrong(api.ErrForm, 1)},
		// The first that is met from the left is told, not what is wrong behind it.
		{"[c-a", wrong(api.ErrForm, 1)},
		{"[c-a\\", wrong(api.ErrForm, 1)},
		{"[c-a[:nope:]]", wrong(api.ErrForm, 1)},
		{"[c-af-d]", wrong(api.ErrForm, 1)},
	})
}

// TestP32Place: what stands ahead of the place counts only for the places of faults, and what stands behind the ] not at all.
func TestP32Place(t *testing.T) {
	for _, s := range texts("[]^-:\\n", 5) {
		s = "[" + s
		w := bracket(t, []byte(s), 0)
		for _, ahead := range []string{"x", "[", "[^", "\\", "[:digit:]", "[a-"} {
			if got := bracket(t, []byte(ahead+s), len(ahead)); got != shifted(w, len(ahead), len(ahead)) {
				t.Fatalf("%q behind %q: %v, ahead of it %v", s, ahead, got, w)
			}
		}
		if w.e != 0 {
			continue
		}
		for _, behind := range []string{"]", "-z]", "\\", "[:", ":]"} {
			hold(t, s[:w.n]+behind, w)
		}
	}
}

// texts are all texts of those bytes, up to a length.
func texts(of string, most int) []string {
	all := []string{""}
	for begin := 0; most > 0; most-- {
		end := len(all)
		for _, s := range all[begin:end] {
			for i := range of {
				all = append(all, s+of[i:i+1])
			}
		}
		begin = end
	}
	return all
}

// memberForm takes a member of ASCII texts, but a class: a range, or what may begin one.
var memberForm = regexp.MustCompile(`^(?s:(\\.|[^\\])-(\[:|\\.|[^\\\]])|(\\.|[^\\]))`)

// wanted is what the regular expression makes of an expression that begins a text.
func wanted(s string) read {
	rest := strings.TrimPrefix(s, "[")
	if rest == s {
		return wrong(api.ErrArg, 0)
	}
	except := strings.HasPrefix(rest, "^")
	rest = strings.TrimPrefix(rest, "^")
	in := ""
	for first := true; first || !strings.HasPrefix(rest, "]"); first = false {
		more, size, e := wantedMember(rest)
		if e == api.ErrEnd {
			return wrong(e, len(s))
		}
		if e != 0 {
			return wrong(e, len(s)-len(rest))
		}
		in, rest = in+more, rest[size:]
	}
	n := len(s) - len(rest) + 1
	if except {
		return others(in, n)
	}
	return right(in, n)
}

func wantedMember(s string) (in string, size int, e api.Errno) {
	if name, ok := strings.CutPrefix(s, "[:"); ok {
		name, behind, ok := strings.Cut(name, ":]")
		switch {
		case !ok:
			return "", 0, api.ErrEnd
		case classes()[name] == nil:
			return "", 0, api.ErrName
		}
		return classBytes(name), len(s) - len(behind), 0
	}
	m := memberForm.FindStringSubmatch(s)
	if m == nil {
		return "", 0, api.ErrEnd
	}
	if m[3] != "" {
		return string([]byte{stands(m[3])}), len(m[0]), 0
	}
	if m[2] == "[:" || stands(m[2]) < stands(m[1]) {
		return "", 0, api.ErrForm
	}
	return span(stands(m[1]), stands(m[2])), len(m[0]), 0
}

// stands is the byte that a byte or an escape stands for.
func stands(s string) byte {
	if i := strings.Index("ntrfvab", s[len(s)-1:]); len(s) == 2 && i >= 0 {
		return "\n\t\r\f\v\a\b"[i]
	}
	return s[len(s)-1]
}

// TestP32All goes through all short texts of the bytes that count, and through rows of longer pieces.
func TestP32All(t *testing.T) {
	for _, s := range texts("[]^-:\\na", 6) {
		hold(t, "["+s, wanted("["+s))
	}
	pieces := []string{"a", "c", "-", "]", "[", "^", "\\", "\\n", ":]", "[:", "[:digit:]", "[:nope:]"}
	rows := []string{"["}
	for begin := 0; len(rows[begin]) < 6; begin++ {
		for _, p := range pieces {
			rows = append(rows, rows[begin]+p)
		}
	}
	for _, s := range rows {
		hold(t, s, wanted(s))
	}
}

// TestP32Beginnings: what is right is unended until its ] is there, whatever ends it.
func TestP32Beginnings(t *testing.T) {
	for _, s := range texts("[]^-\\na", 5) {
		s = "[" + s
		n := bracket(t, []byte(s), 0).n
		for k := 1; k < n; k++ {
			hold(t, s[:k], wrong(api.ErrEnd, k))
		}
	}
}

func TestP32Long(t *testing.T) {
	const many = 1 << 20
	letters := strings.Repeat("a", many)
	hold(t, "["+letters+"]", right("a", many+2))
	hold(t, "[^"+letters, wrong(api.ErrEnd, many+2))
	hold(t, "[[:"+letters+":]]", wrong(api.ErrName, 1))
	hold(t, "[[:"+letters, wrong(api.ErrEnd, many+3))
	hold(t, "["+strings.Repeat("a-c", many)+"]", right("abc", 3*many+2))
	hold(t, "["+strings.Repeat("[:digit:]", many/8)+"c-a]", wrong(api.ErrForm, 9*many/8+1))
	hold(t, strings.Repeat("[", many), wrong(api.ErrEnd, many))
	hold(t, "["+strings.Repeat("\\", many)+"]", right("\\", many+2))
	hold(t, "["+strings.Repeat("\\", many+1)+"]", wrong(api.ErrEnd, many+3))
	var all []byte
	for i := range 256 {
		all = append(all, '\\', byte(i))
	}
	hold(t, "["+string(all)+"]", others("abfnrtv", 514)) // of these the escapes stand for others, which are there by themselves
}

func TestP33Caret(t *testing.T) {
	tried := 0
	for _, s := range append(texts("]-\\na:", 5), "[:digit:]", "a-c[:punct:]", "\x00-\xff", "\xff", "x^") {
		if strings.HasPrefix(s, "^") {
			continue
		}
		a, n, e := charset.Bracket([]byte("["+s+"]"), 0)
		b, m, f := charset.Bracket([]byte("[^"+s+"]"), 0)
		if e != nil || f != nil {
			if (e == nil) != (f == nil) {
				t.Errorf("%q: %v, with ^ %v", s, e, f)
			}
			continue
		}
		tried++
		if m != n+1 || b != charset.Not(a) || charset.Not(b) != a {
			t.Errorf("%q: %q, %d; with ^ %q, %d", s, bytesOf(a), n, bytesOf(b), m)
		}
		for i := range 256 {
			if charset.Has(a, byte(i)) == charset.Has(b, byte(i)) {
				t.Errorf("%q: %x is in both, or in none", s, i)
			}
		}
	}
	if tried < 1000 {
		t.Errorf("only %d tried", tried)
	}
}

// TestP33Stays: what is handed in isn't changed, what lies behind its length isn't read, and no answer hangs on it later.
func TestP33Stays(t *testing.T) {
	for _, s := range []string{"[a-c]", "[^]-a]", "[[:digit:]x]", "[a", "[a-", "[\\", "[[:digit:", "[[:digit", "[[:nope:]]", "[c-a]", "[", "[^", "[[:digit:]", "[[:digit:]-", "x"} {
		memory := append([]byte(s), ":]]z]"...)
		got := bracket(t, memory[:len(s)], 0)
		if w := wanted(s); got != w {
			t.Errorf("%q: %v, not %v", s, got, w)
		}
		if !bytes.Equal(memory, []byte(s+":]]z]")) {
			t.Errorf("%q was changed: %q", s, memory)
		}
	}
	b := []byte("[a-c[:nope:]]")
	_, _, e := charset.Bracket(b, 0)
	clear(b)
	var f *api.Fault
	if !errors.As(e, &f) || f.At != 4 || !errors.Is(e, api.ErrName) {
		t.Errorf("the error hangs on the bytes: %v", e)
	}
}

// TestP33New: an answer may be written over, and no later one changes by it.
func TestP33New(t *testing.T) {
	for _, s := range []string{"x", "[", "[[:nope:]]", "[c-a]"} {
		w := bracket(t, []byte(s), 0)
		_, _, e := charset.Bracket([]byte(s), 0)
		var f *api.Fault
		if !errors.As(e, &f) {
			t.Fatalf("%q: %v", s, e)
		}
		*f = api.Fault{At: 77, Err: api.ErrKind}
		hold(t, s, w)
	}
	for _, s := range []string{"[a-c]", "[[:digit:]]", "[^\\n]"} {
		w := bracket(t, []byte(s), 0)
		a, _, _ := charset.Bracket([]byte(s), 0)
		clear(a[:])
		hold(t, s, w)
	}
	for name := range classes() {
		a, _ := charset.Class(name)
		clear(a[:])
		if b, _ := charset.Class(name); bytesOf(b) != classBytes(name) {
			t.Errorf("%s: %q", name, bytesOf(b))
		}
	}
}

func FuzzBracket(f *testing.F) {
	for _, s := range []string{"", "[a-c]x", "[]^]", "[+--]", "[^[:digit:]\\]-a]", "[a-[:x"} {
		f.Add(s, 0)
	}
	f.Add("x[^a]", 1)
	f.Fuzz(func(t *testing.T, s string, at int) {
		got := bracket(t, []byte(s), at)
		if at != 0 {
			if at < 0 || at >= len(s) || s[at] != '[' {
				if got != wrong(api.ErrArg, 0) {
					t.Errorf("%q at %d: %v", s, at, got)
				}
				return
			}
			s = s[at:]
			got = shifted(got, -at, -at)
		}
		// Of bytes beyond ASCII the regular expression would take whole runes.
		if strings.Trim(s, span(0, 0x7f)) == "" {
			if w := wanted(s); got != w {
				t.Errorf("%q: %v, not %v", s, got, w)
			}
		}
	})
}
