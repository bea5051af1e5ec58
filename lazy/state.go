package lazy

import (
	"slices"

	"trema/api"
	"trema/segset"
)

// slots is how many steps a state remembers at most: not as many as there may be kinds
// of texts, so that a state is of one size whatever the program.
const slots = 32

// state is what a run has reached, as if there were no end.
type state struct {
	reached set
	matches bool
	steps   [slots]step
}

// step is where a text of a kind leads to; nowhere, where to is nil. A step that isn't
// known yet is of the kind 0, which no text is of.
type step struct {
	kind int
	to   *state
}

// state is the state of what was reached: none, where that is nothing.
func (m *Machine) state(reached set) *state {
	if reached == (set{}) {
		return nil
	}
	s, is := m.states[reached]
	if !is {
		s = &state{reached: reached, matches: m.holds(reached, api.OpMatch)}
		m.keep(s)
	}
	return s
}

// keep keeps a state, and lets go of all others first if there is no room for it.
func (m *Machine) keep(s *state) {
	if len(m.states) == m.room {
		clear(m.states)
		m.flushes++
	}
	m.states[s.reached] = s
}

// holds says whether a set has an instruction with any of the operations.
func (m *Machine) holds(s set, ops ...int) bool {
	for at := range s.all {
		if slices.Contains(ops, m.program[at].Op) {
			return true
		}
	}
	return false
}

// after is the state behind a text. No set has the empty one.
func (m *Machine) after(s *state, text string) *state {
	if text == "" {
		return nil
	}
	kind := m.kinds.of(text)
	x := &s.steps[kind%slots]
	if x.kind != kind {
		*x = step{kind: kind, to: m.state(m.over(s.reached, text))}
	}
	return x.to
}

// over is what is reached behind a text.
func (m *Machine) over(reached set, text string) set {
	var from []int
	for at := range reached.all {
		if x := &m.program[at]; x.Op == api.OpSet && segset.Has(x.Set, text) {
			from = append(from, at+1)
		}
	}
	return m.reach(from, false, false)
}

// reach is what is reached from instructions without going over a text, those
// themselves too.
func (m *Machine) reach(from []int, begin, end bool) set {
	var s set
	for len(from) > 0 {
		at := from[len(from)-1]
		from = from[:len(from)-1]
		if !s.has(at) {
			s.add(at)
			from = m.goOn(from, at, begin, end)
		}
	}
	return s
}

// goOn appends what is next to an instruction. Behind OpBegin and OpEnd there is always
// one, since a program's last instruction is a match.
func (m *Machine) goOn(l []int, at int, begin, end bool) []int {
	switch x := &m.program[at]; {
	case x.Op == api.OpSplit:
		return append(l, x.X, x.Y)
	case x.Op == api.OpJump:
		return append(l, x.X)
	case x.Op == api.OpBegin && begin, x.Op == api.OpEnd && end:
		return append(l, at+1)
	}
	return l
}

// matchesAtEnd says whether there is a match where a state is at the text's end, and,
// with begin, at its beginning too.
func (m *Machine) matchesAtEnd(s *state, begin bool) bool {
	return m.holds(m.reach(slices.Collect(s.reached.all), begin, true), api.OpMatch)
}

// copied is a program that shares no lists.
func copied(p []api.Instr) []api.Instr {
	l := slices.Clone(p)
	for i := range l {
		s := &l[i].Set
		s.Single, s.Multi, s.Odd = slices.Clone(s.Single), slices.Clone(s.Multi), slices.Clone(s.Odd)
	}
	return l
}
