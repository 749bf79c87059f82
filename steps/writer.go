package steps

import "fieldfare/api"

// writer writes the steps of parts one behind the other: a meter that knows them, the steps so far, and where those of each shape stand first.
type writer struct {
	meter meter
	steps []api.Step
	first map[shape]int
}

// part writes a part's steps.
func (w *writer) part(p *api.Part) {
	switch p.Kind {
	case api.PartSet:
		w.single(api.StepSet, p.Set)
	case api.PartBegin:
		w.single(api.StepBegin, api.Set{})
	case api.PartEnd:
		w.single(api.StepEnd, api.Set{})
	case api.PartRow, api.PartOr, api.PartRepeat:
		w.whole(p)
	}
}

// whole writes the steps of a part that may have parts. They are made from its parts once alone, since repeats of repeats would go through these again and again, also where they have no steps.
func (w *writer) whole(p *api.Part) {
	s, next, size := shapeOf(p), len(w.steps), w.meter.steps(p)
	if from, ok := w.first[s]; ok {
		w.again(from, size)
		return
	}
	w.first[s] = next
	switch p.Kind {
	case api.PartRow:
		for i := range p.L {
			w.part(&p.L[i])
		}
	case api.PartOr:
		w.branches(p.L, next+size)
	case api.PartRepeat:
		w.repeat(p, next+size)
	}
}

// again writes steps that stand from a place on, so many, once more: each of their places is one of them, or the one behind them.
func (w *writer) again(from, size int) {
	shift := len(w.steps) - from
	for _, s := range w.steps[from : from+size] {
		s.X += shift
		if s.Kind == api.StepFork {
			s.Y += shift
		}
		w.steps = append(w.steps, s)
	}
}

// branches writes parts of which one is to be taken; what follows all stands behind them.
func (w *writer) branches(parts []api.Part, behind int) {
	last := len(parts) - 1
	for i := range last {
		p, next := &parts[i], len(w.steps)+1
		w.fork(next, next+w.meter.steps(p)+1)
		w.part(p)
		w.fork(behind, behind)
	}
	w.part(&parts[last])
}

// repeat writes a repeat's part as often as its bounds say; what follows all stands behind it.
func (w *writer) repeat(p *api.Part, behind int) {
	one := &p.L[0]
	for range p.Min {
		w.part(one)
	}
	if p.Max == noEnd {
		top := len(w.steps)
		w.fork(top+1, behind)
		w.part(one)
		w.fork(top, top)
		return
	}
	for range p.Max - p.Min {
		w.fork(len(w.steps)+1, behind)
		w.part(one)
	}
}

// single writes a step that goes on at the next one.
func (w *writer) single(kind int, set api.Set) {
	w.steps = append(w.steps, api.Step{Kind: kind, Set: set, X: len(w.steps) + 1})
}

// fork writes a fork.
func (w *writer) fork(x, y int) {
	w.steps = append(w.steps, api.Step{Kind: api.StepFork, X: x, Y: y})
}
