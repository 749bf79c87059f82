package numeral

import (
	"bytes"
	"math/bits"

	"fieldfare/api"
)

// A number that isn't too great has at most 30 digits ahead of the point and 6 behind it. As millionths that is two halves, each of which 64 bits hold.
const (
	wholeDigits = 30
	allDigits   = 36
	halfDigits  = 18
	half        = 1_000_000_000_000_000_000 // 10 to the power halfDigits
)

// digits are all of a magnitude in millionths, 0 in front of others too: bytes of a text.
type digits [allDigits]byte

// number is the number of the digits ahead of the point and behind it.
func number(whole, fraction []byte) (api.Dec, error) {
	whole = bytes.TrimLeft(whole, "0") // they don't make it too great, however many there are
	if len(whole) > wholeDigits {
		return api.Dec{}, api.ErrOver
	}
	var d digits
	for i := range d {
		d[i] = '0'
	}
	copy(d[wholeDigits-len(whole):], whole)
	copy(d[wholeDigits:], fraction) // leaves out what is beyond the last
	hi, lo := bits.Mul64(join(d[:halfDigits]), half)
	lo, carry := bits.Add64(lo, join(d[halfDigits:]), 0)
	return api.Dec{Hi: hi + carry, Lo: lo}, nil
}

// spell is the digits of a right number, whose magnitude is below half times half: Div64 doesn't panic.
func spell(a api.Dec) digits {
	var d digits
	upper, lower := bits.Div64(a.Hi, a.Lo, half)
	split(d[:halfDigits], upper)
	split(d[halfDigits:], lower)
	return d
}

// join is the whole number of digits.
func join(d []byte) uint64 {
	var n uint64
	for _, c := range d {
		n = n*10 + uint64(c-'0')
	}
	return n
}

// split fills d with the digits of n.
func split(d []byte, n uint64) {
	for i := len(d) - 1; i >= 0; i-- {
		d[i] = '0' + byte(n%10)
		n /= 10
	}
}
