package charset

import (
	"bytes"

	"fieldfare/api"
)

// The signs that stand around a class's name.
const (
	classOpens  = "[:"
	classCloses = ":]"
)

// Bracket is the set of the bracket expression at a place of bytes, and how many bytes it has.
func Bracket(b []byte, at int) (s api.Set, n int, e error) {
	if at < 0 || at >= len(b) || b[at] != '[' {
		return api.Set{}, 0, fault(0, api.ErrArg)
	}
	first := at + 1
	others := is(b, first, '^')
	if others {
		first++
	}
	next := first
	for next == first || !is(b, next, ']') { // as the first member a ] closes nothing
		var one api.Set
		one, next, e = member(b, next)
		if e != nil {
			return api.Set{}, 0, e
		}
		s = Or(s, one)
	}
	if others {
		s = Not(s)
	}
	return s, next + 1 - at, nil
}

// member is the set of the member at a place, and the place behind it.
func member(b []byte, at int) (s api.Set, next int, e error) {
	if begins(b, at, classOpens) {
		return class(b, at)
	}
	from, next, e := letter(b, at)
	if e != nil {
		return api.Set{}, 0, e
	}
	if !rangeGoesOn(b, next) {
		return Range(from, from), next, nil
	}
	if begins(b, next+1, classOpens) {
		return api.Set{}, 0, fault(at, api.ErrForm)
	}
	to, next, e := letter(b, next+1)
	if e != nil {
		return api.Set{}, 0, e
	}
	if to < from {
		return api.Set{}, 0, fault(at, api.ErrForm)
	}
	return Range(from, to), next, nil
}

// class is the set of the class whose [: is at a place, and the place behind its :].
func class(b []byte, at int) (s api.Set, next int, e error) {
	begin := at + len(classOpens)
	size := bytes.Index(b[begin:], []byte(classCloses))
	if size < 0 {
		return api.Set{}, 0, fault(len(b), api.ErrEnd)
	}
	s, ok := Class(string(b[begin : begin+size]))
	if !ok {
		return api.Set{}, 0, fault(at, api.ErrName)
	}
	return s, begin + size + len(classCloses), nil // a - there is the next member, or begins it: a class begins no range
}

// letter is the byte that the byte or the escape at a place stands for, and the place behind it.
func letter(b []byte, at int) (c byte, next int, e error) {
	switch {
	case at < len(b) && b[at] != '\\':
		return b[at], at + 1, nil
	case at+1 < len(b):
		return Escape(b[at+1]), at + 2, nil
	}
	return 0, 0, fault(len(b), api.ErrEnd)
}

// rangeGoesOn tells whether the byte or the escape ahead of a place is a range's beginning: a - just ahead of the ] is a byte.
func rangeGoesOn(b []byte, at int) bool {
	return is(b, at, '-') && at+1 < len(b) && b[at+1] != ']'
}

// is tells whether a byte stands at a place, which may be the end.
func is(b []byte, at int, c byte) bool {
	return at < len(b) && b[at] == c
}

// begins tells whether a sign stands at a place, which may be the end.
func begins(b []byte, at int, sign string) bool {
	return bytes.HasPrefix(b[at:], []byte(sign))
}

// fault is an error at a place.
func fault(at int, e api.Errno) error {
	return &api.Fault{At: at, Err: e}
}
