package dec

import (
	"math/bits"

	"fieldfare/api"
)

// A magnitude is an api.Dec whose sign isn't looked at; an answer's sign is never below 0.

// one is the number 1 in millionths; 10^36 millionths, which a magnitude must be below, are topHi times 2^64 and topLo.
const (
	one   = 1_000_000
	topHi = 54210108624275221
	topLo = 12919594847110692864
)

// limbs is a magnitude of 256 bits, the lowest 64 first: a product's, before it is cut.
type limbs [4]uint64

// size is a number's magnitude.
func size(a api.Dec) api.Dec {
	return api.Dec{Hi: a.Hi, Lo: a.Lo}
}

// widen is a number's magnitude as limbs.
func widen(a api.Dec) limbs {
	return limbs{a.Lo, a.Hi}
}

// signed is the magnitude m with a sign; 0 is never below 0.
func signed(m api.Dec, neg bool) api.Dec {
	m.Neg = neg && m != api.Dec{}
	return m
}

// fit is the number of a magnitude and a sign, if it isn't too great.
func fit(l limbs, neg bool) (api.Dec, error) {
	m := api.Dec{Hi: l[1], Lo: l[0]}
	if l[2] != 0 || l[3] != 0 || !Good(m) {
		return api.Dec{}, api.ErrOver
	}
	return signed(m, neg), nil
}

// below tells whether the magnitude a is less than b.
func below(a, b api.Dec) bool {
	if a.Hi != b.Hi {
		return a.Hi < b.Hi
	}
	return a.Lo < b.Lo
}

// plus is the sum of two magnitudes below 2^127.
func plus(a, b api.Dec) api.Dec {
	lo, carry := bits.Add64(a.Lo, b.Lo, 0)
	return api.Dec{Hi: a.Hi + b.Hi + carry, Lo: lo}
}

// minus is the magnitude a less b, which isn't greater.
func minus(a, b api.Dec) api.Dec {
	lo, borrow := bits.Sub64(a.Lo, b.Lo, 0)
	return api.Dec{Hi: a.Hi - b.Hi - borrow, Lo: lo}
}

// product is the whole product of two magnitudes.
func product(a, b api.Dec) limbs {
	var p limbs
	for i, x := range [2]uint64{a.Lo, a.Hi} {
		var over uint64
		for k, y := range [2]uint64{b.Lo, b.Hi} {
			p[i+k], over = addProduct(p[i+k], over, x, y)
		}
		p[i+2] = over
	}
	return p
}

// addProduct is p and q and x times y, as its lower limb and its upper one: it is always below 2^128.
func addProduct(p, q, x, y uint64) (lo, hi uint64) {
	hi, lo = bits.Mul64(x, y)
	lo, carry := bits.Add64(lo, p, 0)
	hi += carry
	lo, carry = bits.Add64(lo, q, 0)
	return lo, hi + carry
}

// divide is the quotient of n by the magnitude d, which isn't 0 and below 2^127, and the rest.
func divide(n limbs, d api.Dec) (limbs, api.Dec) {
	var quotient limbs
	var rest api.Dec
	for i := len(n) - 1; i >= 0; i-- {
		quotient[i], rest = digit(rest, n[i], d)
	}
	return quotient, rest
}

// digit is one limb of a long division: that of rest, which is less than d, and the next limb behind it.
func digit(rest api.Dec, next uint64, d api.Dec) (uint64, api.Dec) {
	if d.Hi == 0 {
		q, r := bits.Div64(rest.Lo, next, d.Lo)
		return q, api.Dec{Lo: r}
	}
	var q uint64
	for range 64 {
		rest = api.Dec{Hi: rest.Hi<<1 | rest.Lo>>63, Lo: rest.Lo<<1 | next>>63}
		next <<= 1
		q <<= 1
		if !below(rest, d) {
			rest = minus(rest, d)
			q |= 1
		}
	}
	return q, rest
}
