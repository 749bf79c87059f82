// Package dec is layer 1: exact numbers of six places.
package dec

import (
	"math/bits"

	"fieldfare/api"
)

// maxPower is the greatest magnitude of an exponent.
const maxPower = 1000

// Good tells whether a number is right.
func Good(a api.Dec) bool {
	return below(a, api.Dec{Hi: topHi, Lo: topLo}) && a != api.Dec{Neg: true}
}

// Int is a whole number.
func Int(n int64) api.Dec {
	ones := uint64(n)
	if n < 0 {
		ones = -ones
	}
	hi, lo := bits.Mul64(ones, one)
	return api.Dec{Neg: n < 0, Hi: hi, Lo: lo}
}

// Neg is a number with the other sign; of one that isn't right, 0.
func Neg(a api.Dec) api.Dec {
	if !Good(a) {
		return api.Dec{}
	}
	return signed(size(a), !a.Neg)
}

// Trunc is a number without what stands behind the point; of one that isn't right, 0.
func Trunc(a api.Dec) api.Dec {
	if !Good(a) {
		return api.Dec{}
	}
	_, rest := divide(widen(a), api.Dec{Lo: one})
	return signed(minus(a, rest), a.Neg)
}

// Add is a sum.
func Add(a, b api.Dec) (api.Dec, error) {
	if !Good(a) || !Good(b) {
		return api.Dec{}, api.ErrArg
	}
	if a.Neg == b.Neg {
		return fit(widen(plus(a, b)), a.Neg)
	}
	if below(a, b) {
		a, b = b, a
	}
	return fit(widen(minus(a, b)), a.Neg)
}

// Sub is a difference.
func Sub(a, b api.Dec) (api.Dec, error) {
	if !Good(b) { // Neg would make a right number of it
		return api.Dec{}, api.ErrArg
	}
	return Add(a, Neg(b))
}

// Mul is a product, cut towards 0.
func Mul(a, b api.Dec) (api.Dec, error) {
	if !Good(a) || !Good(b) {
		return api.Dec{}, api.ErrArg
	}
	quotient, _ := divide(product(a, b), api.Dec{Lo: one})
	return fit(quotient, a.Neg != b.Neg)
}

// Div is a quotient, cut towards 0.
func Div(a, b api.Dec) (api.Dec, error) {
	if err := divisible(a, b); err != nil {
		return api.Dec{}, err
	}
	quotient, _ := divide(product(a, api.Dec{Lo: one}), b)
	return fit(quotient, a.Neg != b.Neg)
}

// Mod is the rest of a division whose quotient is cut to a whole number: it has the sign of a.
func Mod(a, b api.Dec) (api.Dec, error) {
	if err := divisible(a, b); err != nil {
		return api.Dec{}, err
	}
	_, rest := divide(widen(a), b)
	return signed(rest, a.Neg), nil
}

// Pow is a power of a whole exponent.
func Pow(a, b api.Dec) (api.Dec, error) {
	if !Good(a) || !Good(b) || b != Trunc(b) {
		return api.Dec{}, api.ErrArg
	}
	if a == (api.Dec{}) && b.Neg {
		return api.Dec{}, api.ErrDivide
	}
	times, ok := Whole(size(b))
	if !ok || times > maxPower {
		return api.Dec{}, api.ErrOver
	}
	power := Int(1)
	for range times {
		next, err := Mul(power, a)
		if err != nil {
			return api.Dec{}, err
		}
		power = next
	}
	if b.Neg {
		return Div(Int(1), power)
	}
	return power, nil
}

// Cmp is -1, 0 or 1, as a is below b, b, or above it; 0, if one isn't right.
func Cmp(a, b api.Dec) int {
	if !Good(a) || !Good(b) || a == b {
		return 0
	}
	if less(a, b) {
		return -1
	}
	return 1
}

// Whole is a number's whole part; 0 and false, if an int64 can't hold it, or the number isn't right.
func Whole(a api.Dec) (int64, bool) {
	if !Good(a) {
		return 0, false
	}
	quotient, _ := divide(widen(a), api.Dec{Lo: one})
	most := uint64(1<<63 - 1)
	if a.Neg {
		most++
	}
	if quotient[1] != 0 || quotient[0] > most {
		return 0, false
	}
	if a.Neg {
		return int64(-quotient[0]), true
	}
	return int64(quotient[0]), true
}

// less tells whether a is less than b, of numbers that are right.
func less(a, b api.Dec) bool {
	if a.Neg != b.Neg {
		return a.Neg
	}
	if a.Neg {
		return below(b, a)
	}
	return below(a, b)
}

// divisible tells what forbids that a is divided by b.
func divisible(a, b api.Dec) error {
	if !Good(a) || !Good(b) {
		return api.ErrArg
	}
	if b == (api.Dec{}) {
		return api.ErrDivide
	}
	return nil
}
