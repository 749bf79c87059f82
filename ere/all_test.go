package ere_test

import (
	"errors"
	"regexp"
	"strconv"
	"strings"
	"testing"

	"fieldfare/api"
	"fieldfare/charset"
	"fieldfare/ere"
)

// This file holds Parse against a second reader, which goes through tokens with a list of what is open instead of calls within calls.

var intervalForm = regexp.MustCompile(`^\{([0-9]{1,3})(,([0-9]{0,3}))?\}`)

// opened is an expression that isn't ended: its branches, the pieces of the last one, and how many signs the last piece has.
type opened struct {
	branches []api.Part
	pieces   []api.Part
	signs    int
}

func (o *opened) add(p api.Part) {
	o.pieces, o.signs = append(o.pieces, p), 0
}

func (o *opened) branch() {
	switch len(o.pieces) {
	case 0:
		o.branches = append(o.branches, none())
	case 1:
		o.branches = append(o.branches, o.pieces[0])
	default:
		o.branches = append(o.branches, row(o.pieces...))
	}
	o.pieces = nil
}

func (o *opened) part() api.Part {
	o.branch()
	if len(o.branches) == 1 {
		return o.branches[0]
	}
	return or(o.branches...)
}

// signAhead is the sign that begins a text: its bounds and size; false: none does.
func signAhead(s string) (least, most, size int, ok bool) {
	switch s[0] {
	case '*':
		return 0, -1, 1, true
	case '+':
		return 1, -1, 1, true
	case '?':
		return 0, 1, 1, true
	}
	m := intervalForm.FindStringSubmatch(s)
	if m == nil {
		return 0, 0, 0, false
	}
	least, _ = strconv.Atoi(m[1])
	most = least
	if m[2] == "," {
		most = -1
	} else if m[2] != "" {
		most, _ = strconv.Atoi(m[3])
	}
	return least, most, len(m[0]), true
}

// readAgain is what Parse is to tell.
func readAgain(s string) (api.Part, wrong) {
	if len(s) > 1000 {
		return api.Part{}, wrong{api.ErrLarge, 0}
	}
	open := []*opened{{}}
	for at := 0; at < len(s); {
		o := open[len(open)-1]
		if least, most, size, ok := signAhead(s[at:]); ok && (size == 1 || len(o.pieces) > 0) {
			switch {
			case len(o.pieces) == 0:
				return api.Part{}, wrong{api.ErrForm, at}
			case least > 255 || most > 255 || most >= 0 && most < least:
				return api.Part{}, wrong{api.ErrLarge, at}
			case o.signs == 8:
				return api.Part{}, wrong{api.ErrDeep, at}
			}
			last := len(o.pieces) - 1
			o.pieces[last] = repeat(least, most, o.pieces[last])
			o.signs++
			at += size
			continue
		}
		size := 1
		switch s[at] {
		case '|':
			o.branch()
		case '(':
			if len(open) > 64 {
				return api.Part{}, wrong{api.ErrDeep, at}
			}
			open = append(open, &opened{})
		case ')':
			if len(open) == 1 {
				return api.Part{}, wrong{api.ErrForm, at}
			}
			open = open[:len(open)-1]
			open[len(open)-1].add(o.part())
		case '.':
			o.add(every())
		case '^':
			o.add(begin())
		case '$':
			o.add(end())
		case '[':
			set, n, e := charset.Bracket([]byte(s), at)
			if e != nil {
				return api.Part{}, wrongOf(e)
			}
			o.add(of(set))
			size = n
		case '\\':
			if at+1 == len(s) {
				return api.Part{}, wrong{api.ErrEnd, len(s)}
			}
			o.add(one(charset.Escape(s[at+1])))
			size = 2
		default:
			o.add(one(s[at]))
		}
		at += size
	}
	if len(open) > 1 {
		return api.Part{}, wrong{api.ErrEnd, len(s)}
	}
	return open[0].part(), wrong{}
}

func wrongOf(e error) wrong {
	var f *api.Fault
	var number api.Errno
	if !errors.As(e, &f) || !errors.As(e, &number) {
		panic(e)
	}
	return wrong{number, f.At}
}

// agree tells whether Parse is right about a text, and about the one that Text makes of it.
func agree(t *testing.T, s string) {
	t.Helper()
	want, w := readAgain(s)
	if w != (wrong{}) {
		fails(t, s, w.e, w.at)
		return
	}
	holds(t, s, want)
	comesBack(t, want)
}

// TestP41All: all texts of some bytes, up to a length.
func TestP41All(t *testing.T) {
	for _, c := range []struct {
		of   string
		most int
	}{
		{"a|()*", 6},
		{"a{1,}", 6},
		{"a{3,2}(", 5},
		{`a\[]^-$.`, 5},
		{"(|)+?{2}", 5},
		{"[:x]-a)", 5},
	} {
		end := []string{""}
		for range c.most + 1 {
			var next []string
			for _, s := range end {
				agree(t, s)
				for _, b := range []byte(c.of) {
					next = append(next, s+string(b))
				}
			}
			if t.Failed() {
				return
			}
			end = next
		}
	}
}

// TestP41Drawn: texts that are put together of pieces of the grammar, and are changed here and there.
func TestP41Drawn(t *testing.T) {
	d := drawn(1)
	tokens := []string{"a", "b", "(", "(", ")", ")", "|", "*", "+", "?", ".", "^", "$", `\n`, `\\`, `\(`, "{", "}", "{2}", "{0,3}", "{1,}", "{255}", "{256}", "{3,2}", "{,2}", "[a-c]", "[^a]", "[]]", "[[:alpha:]]", "[b-a]", "]", ",", "1", "\x00", "\xff"}
	for range 30000 {
		var s strings.Builder
		for range d.below(20) {
			s.WriteString(tokens[d.below(len(tokens))])
		}
		agree(t, s.String())
		if t.Failed() {
			return
		}
	}
}

func FuzzParse(f *testing.F) {
	for _, s := range []string{"", "a|b*", "(ab|c)+x{2,3}[^a].", "a{2,}{x", "((a*)+)?$", "[[:digit:]-z]", `\.\[-`, "a*********", "()"} {
		f.Add(s)
	}
	f.Fuzz(func(t *testing.T, s string) {
		agree(t, s)
		if _, e := ere.Parse([]byte(s)); e == nil && len(s) > 1000 {
			t.Error("too long, and read")
		}
	})
}
