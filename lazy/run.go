package lazy

import "trema/api"

// run goes over a window, text by text.
type run struct {
	machine      *Machine
	window       []string
	begin, final bool
	place        int
	now          *state // none, when nothing goes on
}

// begun is a run from a place of the window.
func (m *Machine) begun(window []string, at int, begin, final bool) run {
	r := run{machine: m, window: window, begin: begin, final: final, place: at}
	r.now = m.state(m.reach([]int{0}, r.atBegin(), false))
	return r
}

func (r *run) atBegin() bool { return r.begin && r.place == 0 }

func (r *run) atEnd() bool { return r.final && r.place == len(r.window) }

// longest goes as far as the run can, and tells its longest match.
func (r *run) longest() (end int, found bool) {
	for more := true; more; more = r.step() {
		if r.matches() {
			end, found = r.place, true
		}
	}
	return end, found
}

// matches says whether there is a match up to the place.
func (r *run) matches() bool {
	if r.atEnd() {
		return r.machine.matchesAtEnd(r.now, r.atBegin())
	}
	return r.now.matches
}

// step goes over the text at the place. It says whether anything is reached behind it:
// there may be no text, too.
func (r *run) step() bool {
	if r.place == len(r.window) {
		return false
	}
	r.now = r.machine.after(r.now, r.window[r.place])
	r.place++
	return r.now != nil
}

// isOpen says whether a run that has gone as far as it can is open.
func (r *run) isOpen() bool {
	return !r.final && r.now != nil && r.machine.holds(r.now.reached, api.OpSet, api.OpEnd)
}
