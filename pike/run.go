package pike

import (
	"slices"

	"trema/api"
	"trema/prog"
	"trema/segset"
)

// run goes over a window, text by text.
type run struct {
	program      []api.Instr
	window       []string
	begin, final bool
	place        int
	now, last    front // at the place, and at the one ahead of it
	latest       int   // what began behind this place doesn't go on
}

// begun is a run from a place, if the program may be and that is a place of the window.
func begun(p []api.Instr, window []string, at int, begin, final bool) (*run, bool) {
	if !prog.May(p) || at < 0 || at > len(window) {
		return nil, false
	}
	r := &run{program: p, window: window, begin: begin, final: final, now: newFront(len(p)), last: newFront(len(p))}
	r.restart(at)
	r.join()
	return r, true
}

// restart goes to a place, and lets go of all that was reached.
func (r *run) restart(place int) {
	r.place = place
	r.now.instrs.Clear()
}

// join begins at the place, beside what goes on there.
func (r *run) join() {
	r.latest = r.place
	r.enter(0, r.place)
}

// enter reaches an instruction at the place, and all that is reached from it.
func (r *run) enter(at, from int) {
	done := r.now.instrs.Len()
	r.now.add(at, from)
	for ; done < r.now.instrs.Len(); done++ {
		next, _ := r.now.instrs.At(done)
		r.goOn(next, from)
	}
}

// goOn reaches what is next to an instruction without going over a text. Behind OpBegin
// and OpEnd there is always one, since a program's last instruction is a match.
func (r *run) goOn(at, from int) {
	x := &r.program[at]
	switch x.Op {
	case api.OpSplit:
		r.now.add(x.X, from)
		r.now.add(x.Y, from)
	case api.OpJump:
		r.now.add(x.X, from)
	case api.OpBegin:
		if r.begin && r.place == 0 {
			r.now.add(at+1, from)
		}
	case api.OpEnd:
		if r.final && r.place == len(r.window) {
			r.now.add(at+1, from)
		}
	}
}

// step goes over the text at the place. It says whether it did so: there may be none, or
// nothing that goes on.
func (r *run) step() bool {
	if r.place == len(r.window) || r.now.instrs.Len() == 0 {
		return false
	}
	text := r.window[r.place]
	r.place++
	r.now, r.last = r.last, r.now
	r.now.instrs.Clear()
	for i := range r.last.instrs.Len() {
		at, _ := r.last.instrs.At(i)
		from := r.last.from[at]
		if x := &r.program[at]; x.Op == api.OpSet && from <= r.latest && segset.Has(x.Set, text) {
			r.enter(at+1, from)
		}
	}
	return true
}

// span is the first span from a place on. Till a match is found, a run begins at each
// place; behind that just those go on that began no later than it did, since a match of
// one that began earlier comes first.
func (r *run) span(place int) (s api.Span, found bool) {
	r.restart(place)
	for more := true; more; more = r.step() {
		if !found {
			r.join()
		}
		if at, is := r.first(api.OpMatch); is {
			s, found = api.Span{From: r.now.from[at], To: r.place}, true
			r.latest = s.From
		}
	}
	return s, found
}

// first is the first one of the reached instructions that has any of the operations
// asked for.
func (r *run) first(ops ...int) (int, bool) {
	for i := range r.now.instrs.Len() {
		at, _ := r.now.instrs.At(i)
		if slices.Contains(ops, r.program[at].Op) {
			return at, true
		}
	}
	return 0, false
}
