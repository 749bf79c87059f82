package dec_test

import (
	"errors"
	"math"
	"math/big"
	"testing"

	"fieldfare/api"
	"fieldfare/dec"
)

// The tests hold the package against whole numbers of any size: a number is there how many millionths it has.

var (
	one = big.NewInt(1_000_000)
	top = power(10, 36)
)

func power(a, n int64) *big.Int {
	return new(big.Int).Exp(big.NewInt(a), big.NewInt(n), nil)
}

func big10(text string) *big.Int {
	n, ok := new(big.Int).SetString(text, 10)
	if !ok {
		panic(text)
	}
	return n
}

func toBig(a api.Dec) *big.Int {
	n := new(big.Int).SetUint64(a.Hi)
	n.Lsh(n, 64).Add(n, new(big.Int).SetUint64(a.Lo))
	if a.Neg {
		n.Neg(n)
	}
	return n
}

func fromBig(n *big.Int) api.Dec {
	m := new(big.Int).Abs(n)
	low := new(big.Int).And(m, new(big.Int).SetUint64(math.MaxUint64))
	return api.Dec{Neg: n.Sign() < 0, Hi: new(big.Int).Rsh(m, 64).Uint64(), Lo: low.Uint64()}
}

// millionths is the number of so many millionths.
func millionths(n int64) api.Dec { return fromBig(big.NewInt(n)) }

// magnitudes are those at which something may go wrong, and some that are spread out.
func magnitudes() []*big.Int {
	var l []*big.Int
	for _, n := range []int64{0, 1, 2, 3, 7, 10, 499_999, 500_000, 500_001, 1_500_000, 2_000_000, 3_000_000, 7_000_000} {
		l = append(l, big.NewInt(n))
	}
	edges := []*big.Int{one, power(10, 12), power(10, 15), power(10, 18), power(10, 21), power(10, 24), power(10, 30), power(2, 32), power(2, 63), power(2, 64), power(2, 65), power(2, 96), power(2, 100), power(2, 119)}
	for _, n := range []int64{63, 64, 96} {
		edges = append(edges, new(big.Int).Mul(power(2, n), one))
	}
	for _, half := range []int64{2, 3} {
		edges = append(edges, new(big.Int).Div(top, big.NewInt(half)))
	}
	for _, e := range edges {
		for d := int64(-1); d <= 1; d++ {
			l = append(l, new(big.Int).Add(e, big.NewInt(d)))
		}
	}
	l = append(l, new(big.Int).Sub(top, big.NewInt(1)), new(big.Int).Sub(top, big.NewInt(2)), new(big.Int).Sub(top, one))
	seed := big.NewInt(12345)
	for i := range 30 {
		seed = new(big.Int).Mod(new(big.Int).Add(new(big.Int).Mul(seed, big10("6364136223846793005314159265358979")), big.NewInt(1442695040888963407)), top)
		l = append(l, new(big.Int).Rsh(seed, uint(i*4)))
	}
	return l
}

// numbers are right numbers of both signs.
func numbers() []api.Dec {
	var l []api.Dec
	for _, m := range magnitudes() {
		l = append(l, fromBig(m))
		if m.Sign() != 0 {
			l = append(l, fromBig(new(big.Int).Neg(m)))
		}
	}
	return l
}

// wrong are numbers that aren't right.
func wrong() []api.Dec {
	t := fromBig(top)
	return []api.Dec{
		{Neg: true},
		t, {Neg: true, Hi: t.Hi, Lo: t.Lo},
		{Hi: t.Hi, Lo: t.Lo + 1}, {Hi: t.Hi + 1}, {Neg: true, Hi: t.Hi + 1},
		{Hi: math.MaxUint64, Lo: math.MaxUint64}, {Neg: true, Hi: math.MaxUint64, Lo: math.MaxUint64}, {Hi: 1 << 63},
	}
}

func is(got, want error) bool {
	return got == nil && want == nil || want != nil && errors.Is(got, want)
}

// want is the answer that a result in millionths asks for.
func want(n *big.Int) (api.Dec, error) {
	if n.CmpAbs(top) >= 0 {
		return api.Dec{}, api.ErrOver
	}
	return fromBig(n), nil
}

type operation struct {
	name string
	f    func(a, b api.Dec) (api.Dec, error)
}

func operations() []operation {
	return []operation{{"Add", dec.Add}, {"Sub", dec.Sub}, {"Mul", dec.Mul}, {"Div", dec.Div}, {"Mod", dec.Mod}, {"Pow", dec.Pow}}
}

// ask is a call and what it has to answer.
type ask struct {
	f    func(a, b api.Dec) (api.Dec, error)
	a, b api.Dec
	want api.Dec
	err  error
}

func check(t *testing.T, l []ask) {
	t.Helper()
	for i, c := range l {
		got, err := c.f(c.a, c.b)
		if got != c.want || !is(err, c.err) {
			t.Errorf("%d: of %v and %v: %v, %v; not %v, %v", i, c.a, c.b, got, err, c.want, c.err)
		}
	}
}

func TestP11Good(t *testing.T) {
	for _, a := range numbers() {
		if !dec.Good(a) {
			t.Errorf("%v is right", a)
		}
	}
	for _, a := range wrong() {
		if dec.Good(a) {
			t.Errorf("%v isn't right", a)
		}
	}
	last := fromBig(new(big.Int).Sub(top, big.NewInt(1)))
	if !dec.Good(last) || !dec.Good(api.Dec{Neg: true, Hi: last.Hi, Lo: last.Lo}) || !dec.Good(api.Dec{}) {
		t.Error("the last numbers and 0 are right")
	}
}

func TestP11Int(t *testing.T) {
	for _, n := range []int64{0, 1, -1, 2, -7, 1 << 32, 18446744073709, 18446744073710, -18446744073710, math.MaxInt64, math.MaxInt64 - 1, math.MinInt64, math.MinInt64 + 1} {
		w := fromBig(new(big.Int).Mul(big.NewInt(n), one))
		if got := dec.Int(n); got != w {
			t.Errorf("%d: %v, not %v", n, got, w)
		}
	}
}

func TestP11NegAndTrunc(t *testing.T) {
	for _, a := range numbers() {
		n := toBig(a)
		if got, w := dec.Neg(a), fromBig(new(big.Int).Neg(n)); got != w {
			t.Errorf("Neg %v: %v, not %v", a, got, w)
		}
		whole := new(big.Int).Quo(n, one)
		if got, w := dec.Trunc(a), fromBig(whole.Mul(whole, one)); got != w {
			t.Errorf("Trunc %v: %v, not %v", a, got, w)
		}
	}
	for _, a := range wrong() {
		if dec.Neg(a) != (api.Dec{}) || dec.Trunc(a) != (api.Dec{}) {
			t.Errorf("%v: %v, %v", a, dec.Neg(a), dec.Trunc(a))
		}
	}
	if got := dec.Trunc(millionths(-999_999)); got != (api.Dec{}) {
		t.Errorf("0 has a sign: %v", got)
	}
}

// TestP12Exact holds each operation on each two numbers against whole numbers of any size.
func TestP12Exact(t *testing.T) {
	l := numbers()
	for _, a := range l {
		for _, b := range l {
			for _, o := range operations()[:5] {
				w, e := exact(o.name, toBig(a), toBig(b))
				got, err := o.f(a, b)
				if got != w || !is(err, e) {
					t.Fatalf("%s of %v and %v: %v, %v; not %v, %v", o.name, a, b, got, err, w, e)
				}
			}
		}
	}
}

func exact(name string, a, b *big.Int) (api.Dec, error) {
	r := new(big.Int)
	switch name {
	case "Add":
		return want(r.Add(a, b))
	case "Sub":
		return want(r.Sub(a, b))
	case "Mul":
		return want(r.Quo(r.Mul(a, b), one))
	}
	if b.Sign() == 0 {
		return api.Dec{}, api.ErrDivide
	}
	if name == "Div" {
		return want(r.Quo(r.Mul(a, one), b))
	}
	return want(r.Sub(a, r.Mul(b, r.Quo(a, b))))
}

func TestP12Ordinary(t *testing.T) {
	zero := api.Dec{}
	check(t, []ask{
		{dec.Add, millionths(1_500_000), millionths(2_600_000), millionths(4_100_000), nil},
		{dec.Add, millionths(1), millionths(-1), zero, nil},
		{dec.Add, millionths(-3), millionths(1), millionths(-2), nil},
		{dec.Sub, dec.Int(2), dec.Int(5), dec.Int(-3), nil},
		{dec.Sub, zero, zero, zero, nil},
		{dec.Mul, millionths(-1_500_000), millionths(2_500_000), millionths(-3_750_000), nil},
		{dec.Mul, millionths(1), millionths(-999_999), zero, nil},
		{dec.Mul, millionths(-1_000_001), millionths(1_999_999), millionths(-2_000_000), nil},
		{dec.Mul, dec.Int(-5), zero, zero, nil},
		{dec.Div, dec.Int(2), dec.Int(3), millionths(666_666), nil},
		{dec.Div, dec.Int(-2), dec.Int(3), millionths(-666_666), nil},
		{dec.Div, millionths(-1), dec.Int(2), zero, nil},
		{dec.Div, zero, dec.Int(-2), zero, nil},
		{dec.Mod, dec.Int(-7), dec.Int(2), dec.Int(-1), nil},
		{dec.Mod, dec.Int(7), dec.Int(-2), dec.Int(1), nil},
		{dec.Mod, millionths(5_500_000), dec.Int(-2), millionths(1_500_000), nil},
		{dec.Mod, dec.Int(-6), dec.Int(2), zero, nil},
		{dec.Mod, dec.Int(-1), dec.Int(2), dec.Int(-1), nil},
	})
}

func TestP12TooGreat(t *testing.T) {
	last := fromBig(new(big.Int).Sub(top, big.NewInt(1)))
	least := dec.Neg(last)
	zero, bit := api.Dec{}, millionths(1)
	root := fromBig(power(10, 21)) // its square is the first that is too great
	under := fromBig(new(big.Int).Sub(power(10, 21), big.NewInt(1)))
	check(t, []ask{
		{dec.Add, last, bit, zero, api.ErrOver},
		{dec.Add, last, zero, last, nil},
		{dec.Add, last, last, zero, api.ErrOver},
		{dec.Add, least, millionths(-1), zero, api.ErrOver},
		{dec.Add, last, least, zero, nil},
		{dec.Sub, least, bit, zero, api.ErrOver},
		{dec.Sub, last, millionths(-1), zero, api.ErrOver},
		{dec.Sub, least, least, zero, nil},
		{dec.Mul, root, root, zero, api.ErrOver},
		{dec.Mul, dec.Neg(root), root, zero, api.ErrOver},
		{dec.Mul, root, under, fromBig(new(big.Int).Sub(top, power(10, 15))), nil},
		{dec.Mul, last, dec.Int(1), last, nil},
		{dec.Mul, last, millionths(1_000_001), zero, api.ErrOver},
		{dec.Mul, last, least, zero, api.ErrOver},
		{dec.Div, last, millionths(999_999), zero, api.ErrOver},
		{dec.Div, least, bit, zero, api.ErrOver},
		{dec.Div, fromBig(power(10, 30)), bit, zero, api.ErrOver},
		{dec.Div, fromBig(new(big.Int).Sub(power(10, 30), big.NewInt(1))), bit, fromBig(new(big.Int).Sub(top, one)), nil},
		{dec.Div, last, least, dec.Int(-1), nil},
		// The quotient is too great, the rest isn't.
		{dec.Mod, last, bit, zero, nil},
		{dec.Mod, last, millionths(10), millionths(9), nil},
		{dec.Mod, least, millionths(7), fromBig(new(big.Int).Rem(toBig(least), big.NewInt(7))), nil},
		{dec.Mod, last, fromBig(new(big.Int).Sub(top, big.NewInt(2))), bit, nil},
		{dec.Mod, bit, least, bit, nil},
	})
}

func TestP12Wrong(t *testing.T) {
	for _, o := range operations() {
		for _, bad := range wrong() {
			// Each is at fault otherwise, too: what isn't right is looked for first.
			for _, a := range append([]api.Dec{{}, dec.Int(1), dec.Int(-5), fromBig(power(10, 35))}, wrong()...) {
				check(t, []ask{{o.f, bad, a, api.Dec{}, api.ErrArg}, {o.f, a, bad, api.Dec{}, api.ErrArg}})
			}
		}
	}
	for _, a := range numbers() {
		check(t, []ask{{dec.Div, a, api.Dec{}, api.Dec{}, api.ErrDivide}, {dec.Mod, a, api.Dec{}, api.Dec{}, api.ErrDivide}})
	}
}

// product is 1, multiplied by a n times, cut each time.
func product(a *big.Int, n int64) (*big.Int, bool) {
	p := new(big.Int).Set(one)
	for range n {
		p.Quo(p.Mul(p, a), one)
		if p.CmpAbs(top) >= 0 {
			return nil, false
		}
	}
	return p, true
}

func exactPow(a *big.Int, n int64) (api.Dec, error) {
	if a.Sign() == 0 && n < 0 {
		return api.Dec{}, api.ErrDivide
	}
	if n > 1000 || n < -1000 {
		return api.Dec{}, api.ErrOver
	}
	p, ok := product(a, max(n, -n))
	switch {
	case !ok:
		return api.Dec{}, api.ErrOver
	case n >= 0:
		return want(p)
	case p.Sign() == 0:
		return api.Dec{}, api.ErrDivide
	}
	return want(new(big.Int).Quo(new(big.Int).Mul(one, one), p))
}

func TestP13Exact(t *testing.T) {
	bases := append(numbers(), millionths(999_000), millionths(-1_001_000), millionths(1_072_267), millionths(986_279), millionths(1_100_000))
	for _, a := range bases {
		for _, n := range []int64{0, 1, -1, 2, -2, 3, -3, 7, 20, -20, 63, 999, -999, 1000, -1000, 1001, -1001, math.MaxInt64, math.MinInt64} {
			w, e := exactPow(toBig(a), n)
			if got, err := dec.Pow(a, dec.Int(n)); got != w || !is(err, e) {
				t.Fatalf("%v, %d: %v, %v; not %v, %v", a, n, got, err, w, e)
			}
		}
	}
}

func TestP13Edges(t *testing.T) {
	zero, half, tenth := api.Dec{}, millionths(500_000), millionths(100_000)
	huge := fromBig(power(10, 35)) // whole, and beyond every int64
	check(t, []ask{
		{dec.Pow, dec.Int(2), dec.Int(10), dec.Int(1024), nil},
		{dec.Pow, dec.Int(-2), dec.Int(3), dec.Int(-8), nil},
		{dec.Pow, dec.Int(2), dec.Int(-2), millionths(250_000), nil},
		{dec.Pow, dec.Int(-3), dec.Int(-1), millionths(-333_333), nil},
		{dec.Pow, dec.Int(5), zero, dec.Int(1), nil},
		{dec.Pow, zero, zero, dec.Int(1), nil},
		{dec.Pow, zero, dec.Int(1000), zero, nil},
		// Cut at each product: 1.0001 squared is 1.00020001, of which 1.0002 goes on.
		{dec.Pow, millionths(1_000_100), dec.Int(3), millionths(1_000_300), nil},
		{dec.Pow, dec.Int(1), dec.Int(1000), dec.Int(1), nil},
		{dec.Pow, dec.Int(-1), dec.Int(-1000), dec.Int(1), nil},
		{dec.Pow, dec.Int(1), dec.Int(1001), zero, api.ErrOver},
		{dec.Pow, dec.Int(1), dec.Int(-1001), zero, api.ErrOver},
		{dec.Pow, zero, dec.Int(1001), zero, api.ErrOver},
		{dec.Pow, dec.Int(1), huge, zero, api.ErrOver},
		{dec.Pow, dec.Int(1), dec.Neg(huge), zero, api.ErrOver},
		{dec.Pow, dec.Int(10), dec.Int(29), fromBig(power(10, 35)), nil},
		{dec.Pow, dec.Int(10), dec.Int(30), zero, api.ErrOver},
		{dec.Pow, dec.Int(10), dec.Int(-30), zero, api.ErrOver},
		{dec.Pow, dec.Int(10), dec.Int(-7), zero, nil},
		{dec.Pow, zero, dec.Int(-1), zero, api.ErrDivide},
		{dec.Pow, zero, dec.Int(-1001), zero, api.ErrDivide},
		{dec.Pow, zero, dec.Neg(huge), zero, api.ErrDivide},
		{dec.Pow, tenth, dec.Int(-6), dec.Int(1_000_000), nil},
		{dec.Pow, tenth, dec.Int(-7), zero, api.ErrDivide},
		{dec.Pow, half, dec.Int(-1001), zero, api.ErrOver},
		{dec.Pow, dec.Int(2), half, zero, api.ErrArg},
		{dec.Pow, zero, millionths(-500_000), zero, api.ErrArg},
		{dec.Pow, zero, millionths(-1_000_001), zero, api.ErrArg},
		{dec.Pow, dec.Int(2), millionths(1_001_500_000), zero, api.ErrArg},
		{dec.Pow, dec.Int(1), millionths(1_000_000_001), zero, api.ErrArg},
	})
}

func TestP14Cmp(t *testing.T) {
	l := numbers()
	for _, a := range l {
		for _, b := range l {
			if got, w := dec.Cmp(a, b), toBig(a).Cmp(toBig(b)); got != w {
				t.Fatalf("%v and %v: %d, not %d", a, b, got, w)
			}
		}
	}
	for _, bad := range wrong() {
		for _, a := range append(wrong(), dec.Int(0), dec.Int(1), dec.Int(-1)) {
			if dec.Cmp(a, bad) != 0 || dec.Cmp(bad, a) != 0 {
				t.Errorf("%v and %v: %d, %d", a, bad, dec.Cmp(a, bad), dec.Cmp(bad, a))
			}
		}
	}
}

func TestP14Whole(t *testing.T) {
	for _, a := range numbers() {
		whole := new(big.Int).Quo(toBig(a), one)
		w, fits := int64(0), whole.IsInt64()
		if fits {
			w = whole.Int64()
		}
		if got, ok := dec.Whole(a); got != w || ok != fits {
			t.Errorf("%v: %d, %v; not %d, %v", a, got, ok, w, fits)
		}
	}
	for _, a := range wrong() {
		if got, ok := dec.Whole(a); got != 0 || ok {
			t.Errorf("%v isn't right: %d, %v", a, got, ok)
		}
	}
	ends := []struct {
		text string // millionths
		want int64
		ok   bool
	}{
		{"9223372036854775807000000", math.MaxInt64, true},
		{"9223372036854775807999999", math.MaxInt64, true},
		{"9223372036854775808000000", 0, false},
		{"-9223372036854775808000000", math.MinInt64, true},
		{"-9223372036854775808999999", math.MinInt64, true},
		{"-9223372036854775809000000", 0, false},
		{"18446744073709551615000000", 0, false},
		{"18446744073709551616000000", 0, false},
		{"18446744073709551617000000", 0, false},
		{"-18446744073709551617000000", 0, false},
		{"999999", 0, true},
		{"-999999", 0, true},
	}
	for _, c := range ends {
		if got, ok := dec.Whole(fromBig(big10(c.text))); got != c.want || ok != c.ok {
			t.Errorf("%s: %d, %v", c.text, got, ok)
		}
	}
}

func TestP15Order(t *testing.T) {
	l := numbers()
	for _, a := range l {
		for _, b := range l {
			for _, o := range []operation{{"Add", dec.Add}, {"Mul", dec.Mul}} {
				x, e := o.f(a, b)
				y, f := o.f(b, a)
				if x != y || e != f {
					t.Fatalf("%s of %v and %v: %v, %v; %v, %v", o.name, a, b, x, e, y, f)
				}
			}
		}
		if d, err := dec.Sub(a, a); d != (api.Dec{}) || err != nil {
			t.Errorf("%v less itself: %v, %v", a, d, err)
		}
	}
}

func TestP15Three(t *testing.T) {
	l := numbers()
	sum := func(a, b, c api.Dec) (api.Dec, bool) {
		s, e := dec.Add(a, b)
		s, f := dec.Add(s, c)
		return s, e == nil && f == nil
	}
	for i, a := range l {
		for k, b := range l {
			c := l[(i*7+k*3)%len(l)]
			x, ok := sum(a, b, c)
			y, well := sum(c, b, a)
			if ok && well && x != y {
				t.Fatalf("%v, %v, %v: %v, %v", a, b, c, x, y)
			}
		}
	}
}

func TestP15Rest(t *testing.T) {
	l := numbers()
	tried := 0
	for _, a := range l {
		for _, b := range l {
			rest, err := dec.Mod(a, b)
			if err != nil {
				continue
			}
			if rest != (api.Dec{}) && rest.Neg != a.Neg {
				t.Fatalf("%v Mod %v: %v", a, b, rest)
			}
			least, err := dec.Sub(a, rest)
			if err != nil {
				t.Fatalf("%v less %v: %v", a, rest, err)
			}
			q, err := dec.Div(least, b)
			if err != nil {
				continue
			}
			tried++
			if dec.Trunc(q) != q {
				t.Fatalf("%v less %v, divided by %v: %v", a, rest, b, q)
			}
			if back, err := dec.Mul(q, b); back != least || err != nil {
				t.Fatalf("%v times %v: %v, %v; not %v", q, b, back, err, least)
			}
		}
	}
	if tried < 1000 {
		t.Errorf("only %d tried", tried)
	}
}
