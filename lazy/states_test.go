package lazy

import (
	"fmt"
	"slices"
	"testing"

	"trema/api"
	"trema/prog"
	"trema/segset"
)

// model keeps states as the chapter says: by the numbers that are reached. The machine
// that it is held against makes those that its runs come to, and no others.
type model struct {
	room, flushes int
	states        map[string]struct{}
}

func newModel(room int) *model { return &model{room: room, states: map[string]struct{}{}} }

// need makes a state, if it isn't there. A run that has reached nothing is over.
func (m *model) need(reached []int) {
	key := fmt.Sprint(reached)
	if _, is := m.states[key]; is || len(reached) == 0 {
		return
	}
	if len(m.states) == m.room {
		clear(m.states)
		m.flushes++
	}
	m.states[key] = struct{}{}
}

// run needs what a run from a place comes to: R, as without an end.
func (m *model) run(p []api.Instr, window []string, at int, begin bool) {
	from := []int{0}
	for i := at; i <= len(window); i++ {
		r := prog.Reach(p, from, begin && i == 0, false)
		m.need(r)
		from = nil
		for _, x := range r {
			if i < len(window) && p[x].Op == api.OpSet && segset.Has(p[x].Set, window[i]) {
				from = append(from, x+1)
			}
		}
	}
}

// ask needs what a question comes to. All asks from each place that no span covers.
func (m *model) ask(p []api.Instr, q ask) {
	if !q.all {
		m.run(p, q.window, q.at, q.begin)
		return
	}
	for at := 0; at <= len(q.window); {
		m.run(p, q.window, at, true)
		at = max(said(p, ask{window: q.window, at: at, begin: true, final: true}).end, at+1)
	}
}

// P11.2: none is let go while there is room, what is needed is made, and behind a flush
// it is the only one; so a machine has just the states that it should, whatever it was
// asked, and with few states, just enough and one too many.
func TestNeeded(t *testing.T) {
	d := dice(30)
	var programs [][]api.Instr
	for _, x := range []string{"", "a", "abc", "a*b", "a|ab", "a$", "$", "^", "^a*$", "(ab)*", "(a|b)*a(a|b){2}", "a{2,3}", "(^a)*", "(a$|ab)b?", ".*", "(a.*b)?", "(a|b)*a(a|b){3}", "(ab|a|ba){2,5}", "(..)*b|(...)*a", "(a?){6}", "(ab?){4}", "((a|b){2,3}e\u0301?)*"} {
		programs = append(programs, of(t, x))
	}
	for range 150 {
		programs = append(programs, rolledProgram(&d, 2+d.roll(12)))
	}
	flushed := 0
	for _, p := range programs {
		for _, room := range []int{2, 3, 4, 5, 8, 20, api.MaxCache} {
			m, _ := New(p, room)
			want := newModel(room)
			for range 40 {
				q := rolledQuestion(&d)
				answered(m, q)
				want.ask(p, q)
				if m.States() != len(want.states) || m.Flushes() != want.flushes {
					t.Fatalf("%s: room %d: %v: %d states and %d flushes, but should be %d and %d", told(p), room, q, m.States(), m.Flushes(), len(want.states), want.flushes)
				}
			}
			flushed += want.flushes
		}
	}
	if flushed < 2000 {
		t.Error("too few flushes", flushed)
	}
}

// P11.2 by hand: flushes ahead of a run, in the middle, and at its end.
func TestFlushes(t *testing.T) {
	type looks struct{ states, flushes int }
	for _, c := range []struct {
		pattern, texts string
		room           int
		want           []looks // behind Longest of the texts from 0, asked again and again
	}{
		{"abc", "abc", 2, []looks{{2, 1}, {2, 3}, {2, 5}}},
		{"abc", "abc", 3, []looks{{1, 1}, {2, 2}, {3, 3}, {1, 5}}},
		{"abc", "abc", 4, []looks{{4, 0}, {4, 0}}}, {"abc", "abc", 5, []looks{{4, 0}}}, {"abc", "abc", api.MaxCache, []looks{{4, 0}}},
		{"abc", "ab", 2, []looks{{1, 1}, {2, 2}, {1, 4}}}, // {0}, {1}, alone {2}; {0}, alone {1}, {2}; alone {0}, {1}, alone {2}
		{"abc", "ab", 3, []looks{{3, 0}}}, {"abc", "axbc", 2, []looks{{2, 0}, {2, 0}}}, {"abc", "x", 2, []looks{{1, 0}}}, {"abc", "", 2, []looks{{1, 0}}},
		{"a*", "aaaa", 2, []looks{{2, 0}, {2, 0}}}, {"a*", "", 2, []looks{{1, 0}}}, {"a*", "b", 2, []looks{{1, 0}}},
		{"a.*b", "aab", 2, []looks{{2, 1}, {2, 3}}}, {"a.*b", "aab", 3, []looks{{1, 1}, {2, 2}}}, {"a.*b", "aab", 4, []looks{{4, 0}}}, {"a.*b", "aaaaaa", 3, []looks{{3, 0}}},
		{"$", "", 2, []looks{{1, 0}, {1, 0}}}, {"a$", "a", 2, []looks{{2, 0}}},
	} {
		p := of(t, c.pattern)
		for _, final := range []bool{false, true} { // the end makes no state
			w := watch(t, p, c.room)
			for i, want := range c.want {
				w.m.Longest(letters(c.texts)[:len(c.texts)], 0, true, final)
				w.look(c.pattern)
				if got := (looks{w.states, w.flushes}); got != want {
					t.Fatalf("%s over %s, room %d, final %v, time %d: %v, but should be %v", c.pattern, c.texts, c.room, final, i+1, got, want)
				}
			}
		}
	}
}

// P11.2: with a state too few there are flushes, with just enough there are none.
func TestJustEnough(t *testing.T) {
	d := dice(31)
	for _, pattern := range []string{"abc", "a*b", "(a|b)*a(a|b){3}", "(ab|a|ba){2,5}", "^a*b?$", "(..)*b|(...)*a"} {
		p := of(t, pattern)
		windows := make([][]string, 30)
		for i := range windows {
			windows[i] = rolledLetters(&d, d.roll(14))
		}
		ask := func(room int) *watched {
			w := watch(t, p, room)
			for _, x := range windows {
				for _, q := range questions(x) {
					w.ask(q)
				}
			}
			return w
		}
		enough := ask(api.MaxCache).states
		for _, room := range []int{enough, enough + 1, 2 * enough} {
			if w := ask(room); w.flushes != 0 || w.states != enough {
				t.Errorf("%s: room %d of %d: %d states, %d flushes", pattern, room, enough, w.states, w.flushes)
			}
		}
		for _, room := range []int{enough - 1, 2} {
			if w := ask(room); w.flushes == 0 {
				t.Errorf("%s: room %d of %d: no flush", pattern, room, enough)
			}
		}
	}
}

// P11.3: each question, asked again at once or behind others, makes no state more.
func TestKept(t *testing.T) {
	d := dice(32)
	for _, pattern := range []string{"", "a*b", "a|ab", "^a|b$", "(a|b)*a(a|b){4}", "(.*a)?", "($a|^b|.)*"} {
		p := of(t, pattern)
		w := watch(t, p, api.MaxCache)
		var asked []ask
		for range 60 {
			q := rolledQuestion(&d)
			asked = append(asked, q)
			w.ask(q)
		}
		states := w.states
		shuffle(&d, asked)
		for _, q := range asked {
			w.ask(q)
		}
		if w.states != states || w.flushes != 0 {
			t.Errorf("%s: %d states of %d, %d flushes", pattern, w.states, states, w.flushes)
		}
	}
}

// P11.2: at MaxCache states there is no room for one more, either.
func TestFullRoom(t *testing.T) {
	p := of(t, "(a|b)*a(a|b){13}") // more states than MaxCache, told apart by the last 13 texts
	d := dice(33)
	w := watch(t, p, api.MaxCache)
	for range 40 {
		w.ask(ask{window: rolledLetters(&d, 300), begin: true})
	}
	if w.flushes == 0 {
		t.Error(w.states, "states and no flush")
	}
	want := newModel(api.MaxCache)
	m, _ := New(p, api.MaxCache)
	for range 40 {
		q := ask{window: rolledLetters(&d, 300), begin: true}
		want.ask(p, q)
		answered(m, q)
		if m.States() != len(want.states) || m.Flushes() != want.flushes {
			t.Fatal(m.States(), m.Flushes(), "but should be", len(want.states), want.flushes)
		}
	}
}

// What is told hangs on what was asked alone: the same questions leave the same states.
func TestSameAgain(t *testing.T) {
	d := dice(34)
	p := of(t, "(a|b)*a(a|b){3}|e\u0301.")
	var asked []ask
	for range 300 {
		asked = append(asked, rolledQuestion(&d))
	}
	for _, room := range []int{2, 5, 9, api.MaxCache} {
		var was []int
		for i := range 3 {
			m, _ := New(p, room)
			var l []int
			for _, q := range asked {
				answered(m, q)
				l = append(l, m.States(), m.Flushes())
			}
			if i > 0 && !slices.Equal(l, was) {
				t.Fatal("room", room, "not the same twice")
			}
			was = l
		}
	}
}
