package numeral

// The parts of a numeral, in the order in which they stand, and what stands behind it.
const (
	partBlanks = iota
	partSign
	partWhole
	partPoint
	partFraction
	partRest
)

// shape is how many bytes each part of a numeral has.
type shape [partRest]int

// shapeOf is the shape of the numeral that begins bytes; if none does, all its parts have 0.
func shapeOf(b []byte) shape {
	var s shape
	part := partBlanks
	for _, c := range b {
		part = next(part, c)
		if part == partRest {
			break
		}
		s[part]++
	}
	if s[partWhole]+s[partFraction] == 0 {
		return shape{}
	}
	return s
}

// next is the part to which the byte c belongs, if the one ahead of it was of the part last.
func next(last int, c byte) int {
	switch last {
	case partBlanks:
		if blank(c) {
			return partBlanks
		}
		if c == '+' || c == '-' {
			return partSign
		}
		fallthrough // there may be no sign
	case partSign, partWhole:
		if digit(c) {
			return partWhole
		}
		if c == '.' {
			return partPoint
		}
	case partPoint, partFraction:
		if digit(c) {
			return partFraction
		}
	}
	return partRest
}

// begin is where a part begins; that of partRest is where the numeral ends.
func (s shape) begin(part int) int {
	n := 0
	for _, size := range s[:part] {
		n += size
	}
	return n
}

// cut is the bytes of a part of the numeral that begins b.
func (s shape) cut(b []byte, part int) []byte {
	return b[s.begin(part):s.begin(part+1)]
}

func blank(c byte) bool {
	return c == ' ' || '\t' <= c && c <= '\r'
}

func digit(c byte) bool {
	return '0' <= c && c <= '9'
}
