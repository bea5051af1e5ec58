package lazy

import (
	"fmt"
	"slices"
	"strings"
	"testing"

	"trema/api"
	"trema/pike"
	"trema/prog"
	"trema/segset"
)

// The instructions without a number.
var (
	begins = api.Instr{Op: api.OpBegin}
	ends   = api.Instr{Op: api.OpEnd}
	match  = api.Instr{Op: api.OpMatch}
)

func text(x string) api.Instr  { return goes(segset.Of(x)) }
func goes(s api.Set) api.Instr { return api.Instr{Op: api.OpSet, Set: s} }
func split(x, y int) api.Instr { return api.Instr{Op: api.OpSplit, X: x, Y: y} }
func jump(x int) api.Instr     { return api.Instr{Op: api.OpJump, X: x} }

// of is the program of a pattern.
func of(t *testing.T, pattern string) []api.Instr {
	t.Helper()
	p, place, e := prog.Pattern([]byte(pattern))
	if e != api.OK {
		t.Fatalf("a test's own pattern %q: %v at %d", pattern, e, place)
	}
	return p
}

// letters are texts of one letter each.
func letters(x string) []string { return strings.Split(x, "") }

// told is the short form of a program.
func told(p []api.Instr) string {
	var l []string
	for _, x := range p[:min(len(p), 40)] {
		switch x.Op {
		case api.OpSet:
			l = append(l, fmt.Sprintf("set%+q", x.Set))
		case api.OpSplit:
			l = append(l, fmt.Sprintf("split %d %d", x.X, x.Y))
		case api.OpJump:
			l = append(l, fmt.Sprintf("jump %d", x.X))
		default:
			l = append(l, fmt.Sprintf("op %d", x.Op))
		}
	}
	return strings.Join(l, ", ")
}

// spans are spans of their short form: "0-2 2-3".
func spans(t *testing.T, form string) []api.Span {
	t.Helper()
	var l []api.Span
	for _, x := range strings.Fields(form) {
		var s api.Span
		if n, e := fmt.Sscanf(x, "%d-%d", &s.From, &s.To); n != 2 || e != nil {
			t.Fatal("a test's own form", form)
		}
		l = append(l, s)
	}
	return l
}

// ask is what is asked of a machine: Longest, or, with all, All of the window.
type ask struct {
	window       []string
	at           int
	begin, final bool
	all          bool
}

func (q ask) String() string {
	if q.all {
		return fmt.Sprintf("All of %+q", q.window)
	}
	return fmt.Sprintf("Longest of %+q from %d, begin %v, final %v", q.window, q.at, q.begin, q.final)
}

// answer is what is answered.
type answer struct {
	end         int
	found, open bool
	spans       []api.Span
	e           api.Errno
}

func same(a, b answer) bool {
	return a.end == b.end && a.found == b.found && a.open == b.open && slices.Equal(a.spans, b.spans) && a.e == b.e
}

func answered(m *Machine, q ask) (a answer) {
	if q.all {
		a.spans, a.e = m.All(q.window)
	} else {
		a.end, a.found, a.open, a.e = m.Longest(q.window, q.at, q.begin, q.final)
	}
	return a
}

// said is what layer 10 answers.
func said(p []api.Instr, q ask) (a answer) {
	if q.all {
		a.spans, a.e = pike.All(p, q.window)
	} else {
		a.end, a.found, a.open, a.e = pike.Longest(p, q.window, q.at, q.begin, q.final)
	}
	return a
}

// watched is a machine that is looked at behind each call.
type watched struct {
	t               *testing.T
	p               []api.Instr
	m               *Machine
	room            int
	states, flushes int // behind the last call
}

func watch(t *testing.T, p []api.Instr, room int) *watched {
	t.Helper()
	m, e := New(p, room)
	if m == nil || e != api.OK || m.States() != 0 || m.Flushes() != 0 {
		t.Fatalf("%s: New with room %d: %v", told(p), room, e)
	}
	return &watched{t: t, p: p, m: m, room: room}
}

// look holds P11.2: what was let go in the last call was let go by a flush, and what was
// flushed there was more than there was room for.
func (w *watched) look(what any) {
	w.t.Helper()
	states, flushes := w.m.States(), w.m.Flushes()
	if states < 0 || states > w.room || flushes < w.flushes || flushes == w.flushes && states < w.states {
		w.t.Fatalf("%s: room %d: %v: %d states and %d flushes, behind %d and %d", told(w.p), w.room, what, states, flushes, w.states, w.flushes)
	}
	if flushes > w.flushes && states == 0 {
		w.t.Fatalf("%s: room %d: %v: a flush leaves the state that was needed", told(w.p), w.room, what)
	}
	w.states, w.flushes = states, flushes
}

// ask asks twice at once, and holds P11.1 to P11.3.
func (w *watched) ask(q ask) answer {
	w.t.Helper()
	want := said(w.p, q)
	flushes := w.flushes
	for i := range 2 {
		states := w.states
		got := answered(w.m, q)
		w.look(q)
		if !same(got, want) {
			w.t.Fatalf("%s: room %d: %v: %v, but layer 10 answers %v", told(w.p), w.room, q, got, want)
		}
		if i > 0 && flushes == w.flushes && states != w.states {
			w.t.Fatalf("%s: room %d: %v: asked again at once it made %d states of %d", told(w.p), w.room, q, w.states, states)
		}
	}
	if want.e == api.OK && w.states == 0 {
		w.t.Fatalf("%s: room %d: %v: no state was made", told(w.p), w.room, q)
	}
	return want
}

// questions are all that can be asked of a window.
func questions(window []string) []ask {
	l := []ask{{window: window, all: true}}
	for at := range len(window) + 1 {
		l = append(l, flags(window, at)...)
	}
	return l
}

// flags are the questions from a place of a window with each of begin and final.
func flags(window []string, at int) []ask {
	var l []ask
	for _, begin := range []bool{false, true} {
		for _, final := range []bool{false, true} {
			l = append(l, ask{window: window, at: at, begin: begin, final: final})
		}
	}
	return l
}

// rows are all lists of up to so many texts.
func rows(most int, texts ...string) [][]string {
	l := [][]string{nil}
	for from, n := 0, 0; n < most; n++ {
		to := len(l)
		for _, row := range l[from:to] {
			for _, x := range texts {
				l = append(l, append(slices.Clone(row), x))
			}
		}
		from = to
	}
	return l
}

// dice are numbers without an order that can be seen, the same at every run.
type dice uint64

func (d *dice) roll(n int) int {
	*d = *d*6364136223846793005 + 1442695040888963407
	return int(uint64(*d)>>33) % n
}

func pick[T any](d *dice, l ...T) T { return l[d.roll(len(l))] }

// shuffle brings a list into another order.
func shuffle[T any](d *dice, l []T) {
	for i := range l {
		k := i + d.roll(len(l)-i)
		l[i], l[k] = l[k], l[i]
	}
}
