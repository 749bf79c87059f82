package numeral_test

import (
	"bytes"
	"errors"
	"math"
	"math/big"
	"regexp"
	"strings"
	"testing"

	"fieldfare/api"
	"fieldfare/dec"
	"fieldfare/numeral"
)

// The tests hold the package against a regular expression, which tells a numeral's parts, and whole numbers of any size, in which a number is there how many millionths it has.

// form takes numerals of ASCII texts: the blanks are the six of the document.
var form = regexp.MustCompile(`^[\x09\x0a\x0b\x0c\x0d\x20]*([+-]?)(?:([0-9]+)(?:\.([0-9]*))?|\.([0-9]+))`)

var top = new(big.Int).Exp(big.NewInt(10), big.NewInt(36), nil)

func fromBig(n *big.Int) api.Dec {
	m := new(big.Int).Abs(n)
	low := new(big.Int).And(m, new(big.Int).SetUint64(math.MaxUint64))
	return api.Dec{Neg: n.Sign() < 0, Hi: new(big.Int).Rsh(m, 64).Uint64(), Lo: low.Uint64()}
}

func millionths(n int64) api.Dec { return fromBig(big.NewInt(n)) }

// answer is what Prefix and Looks tell of bytes.
type answer struct {
	a     api.Dec
	n     int
	over  bool
	looks bool
}

func told(t *testing.T, s string) answer {
	t.Helper()
	a, n, e := numeral.Prefix([]byte(s))
	if e != nil && !errors.Is(e, api.ErrOver) {
		t.Errorf("%q: %v", s, e)
	}
	return answer{a, n, e != nil, numeral.Looks([]byte(s))}
}

// wanted is what the regular expression makes of a text.
func wanted(s string) answer {
	m := form.FindStringSubmatch(s)
	if m == nil {
		return answer{}
	}
	rest := s[len(m[0]):]
	w := answer{n: len(m[0]), looks: strings.Trim(rest, "\x09\x0a\x0b\x0c\x0d\x20") == ""}
	places := (m[3] + m[4] + "000000")[:6]
	n, _ := new(big.Int).SetString(m[2]+places, 10)
	if m[1] == "-" {
		n.Neg(n)
	}
	if w.over = n.CmpAbs(top) >= 0; !w.over {
		w.a = fromBig(n)
	}
	return w
}

func hold(t *testing.T, s string, w answer) {
	t.Helper()
	if got := told(t, s); got != w {
		t.Errorf("%.80q (%d bytes): %v, not %v", s, len(s), got, w)
	}
}

// texts are all texts of those bytes, up to a length.
func texts(of string, most int) []string {
	all := []string{""}
	for begin := 0; most > 0; most-- {
		end := len(all)
		for _, s := range all[begin:end] {
			for _, c := range []byte(of) {
				all = append(all, s+string(rune(c)))
			}
		}
		begin = end
	}
	return all
}

func TestP21Ordinary(t *testing.T) {
	for _, c := range []struct {
		s     string
		a     api.Dec
		n     int
		looks bool
	}{
		{" -12.50x", millionths(-12_500_000), 7, false},
		{"12", dec.Int(12), 2, true},
		{"+3.25", millionths(3_250_000), 5, true},
		{"3.25 ", millionths(3_250_000), 4, true},
		{"10 20", dec.Int(10), 2, false},
		{"1,5", dec.Int(1), 1, false},
		{"1e5", dec.Int(1), 1, false},
		{"0x10", api.Dec{}, 1, false},
		{"7-", dec.Int(7), 1, false},
		{"7-2", dec.Int(7), 1, false},
		{"abc", api.Dec{}, 0, false},
		{"inf", api.Dec{}, 0, false},
		{"nan", api.Dec{}, 0, false},
		{"_1", api.Dec{}, 0, false},
		{"1_000", dec.Int(1), 1, false},
	} {
		hold(t, c.s, answer{a: c.a, n: c.n, looks: c.looks})
	}
}

func TestP21Edges(t *testing.T) {
	for _, c := range []struct {
		s     string
		a     api.Dec
		n     int
		looks bool
	}{
		{"", api.Dec{}, 0, false},
		{" ", api.Dec{}, 0, false},
		{"\t\n\v\f\r ", api.Dec{}, 0, false},
		{"+", api.Dec{}, 0, false},
		{"-", api.Dec{}, 0, false},
		{" - ", api.Dec{}, 0, false},
		{".", api.Dec{}, 0, false},
		{"-.", api.Dec{}, 0, false},
		{"+.x", api.Dec{}, 0, false},
		{"..5", api.Dec{}, 0, false},
		{". 5", api.Dec{}, 0, false},
		{"5.", dec.Int(5), 2, true},
		{"5.x", dec.Int(5), 2, false},
		{"5. 5", dec.Int(5), 2, false},
		{"5 .", dec.Int(5), 1, false},
		{".5", millionths(500_000), 2, true},
		{"-.5", millionths(-500_000), 3, true},
		{"0.", api.Dec{}, 2, true},
		{".0", api.Dec{}, 2, true},
		{"1.2.3", millionths(1_200_000), 3, false},
		{"1..2", dec.Int(1), 2, false},
		{".5.", millionths(500_000), 2, false},
		{"--1", api.Dec{}, 0, false},
		{"+-1", api.Dec{}, 0, false},
		{"-+1", api.Dec{}, 0, false},
		{"- 1", api.Dec{}, 0, false},
		{"1-1", dec.Int(1), 1, false},
		{"1.-1", dec.Int(1), 2, false},
		{"-0", api.Dec{}, 2, true},
		{"-0.0", api.Dec{}, 4, true},
		{"+0", api.Dec{}, 2, true},
		{"00", api.Dec{}, 2, true},
		{"007", dec.Int(7), 3, true},
		{"-00.700", millionths(-700_000), 7, true},
		{"0.123456", millionths(123_456), 8, true},
		{"0.1234569", millionths(123_456), 9, true},
		{"-0.1234569", millionths(-123_456), 10, true},
		{"0.9999999", millionths(999_999), 9, true},
		{"-0.0000009", api.Dec{}, 10, true},
		{".000001", millionths(1), 7, true},
		{"-.0000010", millionths(-1), 9, true},
		{"1.0000009999x", dec.Int(1), 12, false},
	} {
		hold(t, c.s, answer{a: c.a, n: c.n, looks: c.looks})
	}
}

func TestP21Blanks(t *testing.T) {
	for i := range 256 {
		c, blank := string([]byte{byte(i)}), false
		switch i {
		case 0x09, 0x0a, 0x0b, 0x0c, 0x0d, 0x20:
			blank = true
			hold(t, c+"-1", answer{a: dec.Int(-1), n: 3, looks: true})
			hold(t, c+c+" .5"+c+"x", answer{a: millionths(500_000), n: 5})
		}
		if _, n, _ := numeral.Prefix([]byte(c + ".5")); n != 0 != (blank || strings.Contains("+-0123456789", c)) {
			t.Errorf("%q ahead: %d bytes", c, n)
		}
		if got := numeral.Looks([]byte("5." + c)); got != (blank || '0' <= i && i <= '9') {
			t.Errorf("%q behind: %v", c, got)
		}
		if _, n, _ := numeral.Prefix([]byte("5" + c)); n != 1 != strings.Contains(".0123456789", c) {
			t.Errorf("%q behind: %d bytes", c, n)
		}
	}
	// Blanks and digits of other tongues aren't any.
	for _, s := range []string{"\u00a01", "\u20031", "\ufeff1", "\u0661", "\uff11", "\u22121"} {
		hold(t, s, answer{})
		hold(t, "1"+s, answer{a: dec.Int(1), n: 1})
	}
}

// TestP21All goes through all short texts of the bytes of which a numeral consists, and one that is none of them.
func TestP21All(t *testing.T) {
	for _, s := range texts(" \r+-.05x", 6) {
		hold(t, s, wanted(s))
	}
}

func TestP21TooGreat(t *testing.T) {
	nines, first := strings.Repeat("9", 30), "1"+strings.Repeat("0", 30)
	last := fromBig(new(big.Int).Sub(top, big.NewInt(1)))
	least := dec.Neg(last)
	zeros := strings.Repeat("0", 1000)
	hold(t, nines+".999999", answer{a: last, n: 37, looks: true})
	hold(t, "-"+nines+".999999", answer{a: least, n: 38, looks: true})
	hold(t, nines+".9999999", answer{a: last, n: 38, looks: true}) // cut, and so not too great
	hold(t, zeros+nines+".999999"+zeros, answer{a: last, n: 2037, looks: true})
	hold(t, "-"+zeros+".5", answer{a: millionths(-500_000), n: 1003, looks: true})
	hold(t, first, answer{n: 31, over: true, looks: true})
	hold(t, "\t-"+first+".000001 x", answer{n: 40, over: true})
	hold(t, "+"+zeros+first+". ", answer{n: 1033, over: true, looks: true})
	hold(t, first+zeros+".5.", answer{n: 1033, over: true})
	for n := range 80 {
		for _, sign := range []string{"", "-"} {
			for _, digit := range []string{"9", "1", "0"} {
				for _, behind := range []string{"", ".", ".000001", ".9999999 ", "e"} {
					s := sign + digit + strings.Repeat("7", n) + behind
					hold(t, s, wanted(s))
					s = " " + sign + zeros[:n] + digit + strings.Repeat("0", n) + behind
					hold(t, s, wanted(s))
				}
			}
		}
	}
}

func TestP21Long(t *testing.T) {
	const many = 1 << 20
	zeros := strings.Repeat("0", many)
	hold(t, zeros, answer{n: many, looks: true})
	hold(t, "-"+zeros+"12", answer{a: dec.Int(-12), n: many + 3, looks: true})
	hold(t, "3."+zeros+"9", answer{a: dec.Int(3), n: many + 3, looks: true})
	hold(t, strings.Repeat("9", many)+"x", answer{n: many, over: true})
	hold(t, strings.Repeat(" ", many)+"4"+strings.Repeat("\n", many), answer{a: dec.Int(4), n: many + 1, looks: true})
	hold(t, strings.Repeat(" ", many), answer{})
	hold(t, strings.Repeat("-", many), answer{})
}

func TestP22Text(t *testing.T) {
	last := fromBig(new(big.Int).Sub(top, big.NewInt(1)))
	nines := strings.Repeat("9", 30) + ".999999"
	for _, c := range []struct {
		a api.Dec
		s string
	}{
		{api.Dec{}, "0"},
		{dec.Int(1), "1"},
		{dec.Int(-1), "-1"},
		{dec.Int(10), "10"},
		{dec.Int(-100), "-100"},
		{millionths(500_000), "0.5"},
		{millionths(-500_000), "-0.5"},
		{millionths(1), "0.000001"},
		{millionths(-1), "-0.000001"},
		{millionths(-12_500_000), "-12.5"},
		{millionths(12_340_000), "12.34"},
		{millionths(10_000_010), "10.00001"},
		{millionths(20_123_456), "20.123456"},
		{millionths(100_000_100_100), "100000.1001"},
		{dec.Int(math.MaxInt64), "9223372036854775807"},
		{dec.Int(math.MinInt64), "-9223372036854775808"},
		{fromBig(new(big.Int).Lsh(big.NewInt(1), 64)), "18446744073709.551616"},
		{last, nines},
		{dec.Neg(last), "-" + nines},
	} {
		if got := numeral.Text(c.a); got != c.s {
			t.Errorf("%v: %q, not %q", c.a, got, c.s)
		}
	}
}

func TestP22TextWrong(t *testing.T) {
	first := fromBig(top)
	for _, a := range []api.Dec{
		{Neg: true},
		first, {Neg: true, Hi: first.Hi, Lo: first.Lo}, {Hi: first.Hi, Lo: first.Lo + 1}, {Hi: first.Hi + 1}, {Neg: true, Hi: first.Hi + 1},
		{Hi: 1 << 63}, {Hi: math.MaxUint64, Lo: math.MaxUint64}, {Neg: true, Hi: math.MaxUint64, Lo: math.MaxUint64},
	} {
		if got := numeral.Text(a); got != "" {
			t.Errorf("%v isn't right: %q", a, got)
		}
	}
}

// numbers are right numbers of both signs: around each power of 10, 2 and 3, and cut from long digits.
func numbers() []api.Dec {
	var l []api.Dec
	add := func(n *big.Int) {
		if n.CmpAbs(top) < 0 {
			l = append(l, fromBig(n), fromBig(new(big.Int).Neg(n)))
		}
	}
	for _, base := range []int64{2, 3, 10} {
		for n := big.NewInt(1); n.Cmp(top) <= 0; n = new(big.Int).Mul(n, big.NewInt(base)) {
			for d := int64(-1); d <= 1; d++ {
				add(new(big.Int).Add(n, big.NewInt(d)))
			}
		}
	}
	long := "314159265358979323846264338327950288"
	for i := range long {
		for k := i + 1; k <= len(long); k++ {
			n, _ := new(big.Int).SetString(long[i:k]+strings.Repeat("0", i), 10)
			add(n)
		}
	}
	return l
}

func TestP23Back(t *testing.T) {
	plain := regexp.MustCompile(`^-?(0|[1-9][0-9]*)(\.[0-9]*[1-9])?$`)
	for _, a := range numbers() {
		s := numeral.Text(a)
		if !plain.MatchString(s) || s[:1] == "-" != a.Neg {
			t.Fatalf("%v: %q", a, s)
		}
		hold(t, s, answer{a: a, n: len(s), looks: true})
		hold(t, s+"x", answer{a: a, n: len(s)})
	}
}

func TestP23Stays(t *testing.T) {
	for _, s := range []string{"", " \t-007.1234567 x", strings.Repeat("9", 50), ".", "-0.0  "} {
		// What lies behind the length would go on with the numeral.
		memory := append([]byte(s), "5.55"...)
		b := memory[:len(s)]
		a, n, e := numeral.Prefix(b)
		looks := numeral.Looks(b)
		if got, w := (answer{a, n, e != nil, looks}), wanted(s); got != w {
			t.Errorf("%q: %v, not %v", s, got, w)
		}
		if !bytes.Equal(memory, []byte(s+"5.55")) {
			t.Errorf("%q was changed: %q", s, memory)
		}
	}
	hold(t, string([]byte(nil)), answer{})
	if a, n, e := numeral.Prefix(nil); a != (api.Dec{}) || n != 0 || e != nil || numeral.Looks(nil) {
		t.Errorf("of nil: %v, %d, %v", a, n, e)
	}
}

// TestP23Again: what is asked between changes no answer.
func TestP23Again(t *testing.T) {
	between := strings.Repeat("9", 40)
	for _, s := range texts("-.9 ", 4) {
		first, text := told(t, s), numeral.Text(millionths(-7))
		hold(t, s+between, wanted(s+between))
		hold(t, s, first)
		if got := numeral.Text(millionths(-7)); got != text {
			t.Errorf("%q, then %q", text, got)
		}
	}
}

func FuzzPrefix(f *testing.F) {
	for _, s := range []string{"", " -12.50x", "1.2.3", strings.Repeat("9", 31), "\v+.5\f"} {
		f.Add(s)
	}
	f.Fuzz(func(t *testing.T, s string) {
		hold(t, s, wanted(s))
	})
}
