package pike

import "trema/sparse"

// front is the instructions that are reached at one place. Where runs from several
// places go on side by side, those of the run from the least place come first; and one
// that several runs reach is that run's alone: all would go on alike from there, and its
// match would be told.
type front struct {
	instrs *sparse.Set[int]
	from   []int // where the run of each began
}

func newFront(size int) front {
	return front{instrs: sparse.New[int](size), from: make([]int, size)}
}

// add reaches an instruction.
func (f *front) add(at, from int) {
	if f.instrs.Add(at) {
		f.from[at] = from
	}
}
