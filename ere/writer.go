package ere

import (
	"slices"
	"strings"

	"fieldfare/api"
)

// standing tells whether a part may stand at a place without ( and ) around it.
type standing func(p *api.Part) bool

// allBut is where parts of all kinds but some may stand so.
func allBut(kinds ...int) standing {
	return func(p *api.Part) bool { return !slices.Contains(kinds, p.Kind) }
}

// todo is what is still to be written: a text, and then parts with another text between, all of which stand alike; behind one that is alone stand signs of others.
type todo struct {
	text    string
	parts   []api.Part
	between string
	may     standing
	signs   int
}

// writer writes an expression. Parts may be nested deeper than calls may be, so that what is still to be written stands in a list, the next one last.
type writer struct {
	text strings.Builder
	todo []todo
}

// sound tells whether a part may be in an expression, those in it aside.
func sound(p *api.Part) bool {
	switch p.Kind {
	case api.PartNone, api.PartBegin, api.PartEnd:
		return true
	case api.PartSet:
		return p.Set != api.Set{}
	case api.PartRow, api.PartOr:
		return len(p.L) >= 2
	case api.PartRepeat:
		return len(p.L) == 1 && bounded(p.Min, p.Max)
	}
	return false
}

// write is an expression of a part that is sound, as are those in it.
func write(p api.Part) string {
	w := writer{todo: []todo{{parts: []api.Part{p}, may: allBut()}}}
	for len(w.todo) > 0 {
		last := len(w.todo) - 1
		next := w.todo[last]
		w.todo = w.todo[:last]
		w.text.WriteString(next.text)
		if len(next.parts) > 1 {
			rest := next
			rest.text, rest.parts = next.between, next.parts[1:]
			w.todo = append(w.todo, rest)
		}
		if len(next.parts) > 0 {
			w.first(next)
		}
	}
	return w.text.String()
}

// first writes the first one of parts, or puts what it consists of ahead of all else that is to be written.
func (w *writer) first(t todo) {
	p := &t.parts[0]
	if !t.may(p) {
		w.text.WriteByte('(')
		w.todo = append(w.todo, todo{text: ")"}, todo{parts: t.parts[:1], may: allBut()})
		return
	}
	switch p.Kind {
	case api.PartSet:
		w.text.WriteString(setText(p.Set))
	case api.PartBegin:
		w.text.WriteByte('^')
	case api.PartEnd:
		w.text.WriteByte('$')
	case api.PartRow:
		w.todo = append(w.todo, todo{parts: p.L, may: allBut(api.PartNone, api.PartRow, api.PartOr)})
	case api.PartOr:
		w.todo = append(w.todo, todo{parts: p.L, between: "|", may: allBut(api.PartOr)})
	case api.PartRepeat:
		w.repeat(p, t.signs+1)
	}
}

// repeat puts a repeat's part and its sign ahead of all else; so many signs, this one too, stand behind that part.
func (w *writer) repeat(p *api.Part, signs int) {
	grouped := []int{api.PartNone, api.PartRow, api.PartOr}
	if signs == maxSigns { // what is in ( and ) may have as many again
		grouped = append(grouped, api.PartRepeat)
	}
	w.todo = append(w.todo,
		todo{text: signText(p.Min, p.Max)},
		todo{parts: p.L, may: allBut(grouped...), signs: signs})
}
