package ere

import (
	"strings"

	"fieldfare/api"
	"fieldfare/charset"
)

// The bytes that stand for themselves behind a \ alone: as atoms, and as members of a bracket expression.
const (
	atomMarks   = `\.[(|)^$*+?{`
	memberMarks = `\[^-]`
)

// setText is an atom of a set that has bytes.
func setText(s api.Set) string {
	switch charset.Count(s) {
	case 1:
		return letter(first(s), atomMarks)
	case 256:
		return "."
	}
	of, butFor := members(s), members(charset.Not(s))
	if len(butFor)+1 < len(of) {
		return "[^" + butFor + "]"
	}
	return "[" + of + "]"
}

// members is the members of a bracket expression of a set: each row of bytes by its first one and its last.
func members(s api.Set) string {
	in := func(c int) bool { return c >= 0 && c <= 255 && charset.Has(s, byte(c)) }
	var text strings.Builder
	for c := range 256 {
		if !in(c) || in(c-1) && in(c+1) {
			continue
		}
		if in(c-1) && in(c-2) { // bytes are left out between the first one and this
			text.WriteByte('-')
		}
		text.WriteString(letter(byte(c), memberMarks))
	}
	return text.String()
}

// first is the first byte of a set that has bytes.
func first(s api.Set) byte {
	for c := range 256 {
		if charset.Has(s, byte(c)) {
			return byte(c)
		}
	}
	return 0
}

// letter is what stands for a byte, where some bytes are marks.
func letter(c byte, marks string) string {
	text := string([]byte{c})
	if strings.Contains(marks, text) {
		return `\` + text
	}
	return text
}
