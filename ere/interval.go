package ere

import (
	"strconv"

	"fieldfare/api"
)

// interval is the bounds of the interval that begins with the { at a place, and how many bytes it has: 0, if none begins there.
func interval(b []byte, at int) (least, most, size int, e error) {
	first := at + 1
	least, next := number(b, first)
	if next == first {
		return 0, 0, 0, nil
	}
	most = least
	if is(b, next, ',') {
		second := next + 1
		most, next = number(b, second)
		if next == second {
			most = noEnd
		}
	}
	if !is(b, next, '}') {
		return 0, 0, 0, nil
	}
	if !bounded(least, most) {
		return 0, 0, 0, fault(at, api.ErrLarge)
	}
	return least, most, next + 1 - at, nil
}

// number is the number of the digits at a place, as many as a number may have, and the place behind them.
func number(b []byte, at int) (n, next int) {
	for range maxDigits {
		if at == len(b) || b[at] < '0' || b[at] > '9' {
			break
		}
		n = 10*n + int(b[at]-'0')
		at++
	}
	return n, at
}

// signText is the shortest sign of bounds that may be.
func signText(least, most int) string {
	switch {
	case least == 0 && most == noEnd:
		return "*"
	case least == 1 && most == noEnd:
		return "+"
	case least == 0 && most == 1:
		return "?"
	case most == least:
		return "{" + strconv.Itoa(least) + "}"
	case most == noEnd:
		return "{" + strconv.Itoa(least) + ",}"
	}
	return "{" + strconv.Itoa(least) + "," + strconv.Itoa(most) + "}"
}
