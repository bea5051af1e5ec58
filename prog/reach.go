package prog

import (
	"trema/api"
	"trema/segset"
)

// isNumber says whether a number is that of one of n instructions.
func isNumber(x, n int) bool { return 0 <= x && x < n }

// fits says whether an instruction's fields are such as its operation asks for, in a
// program of n instructions.
func fits(x api.Instr, n int) bool {
	switch x.Op {
	case api.OpSet:
		return x.X == 0 && x.Y == 0 && segset.May(x.Set)
	case api.OpSplit:
		return bare(x.Set) && isNumber(x.X, n) && isNumber(x.Y, n)
	case api.OpJump:
		return bare(x.Set) && isNumber(x.X, n) && x.Y == 0
	case api.OpBegin, api.OpEnd, api.OpMatch:
		return bare(x.Set) && x.X == 0 && x.Y == 0
	}
	return false
}

// bare says whether an instruction has no set: a set without texts would be one too.
func bare(s api.Set) bool {
	return len(s.Single) == 0 && len(s.Multi) == 0 && len(s.Odd) == 0
}

// reacher goes on from instructions to others, once from each.
type reacher struct {
	program    []api.Instr
	reached    []bool
	open       []int // those from which it has not gone on yet
	begin, end bool
}

// to reaches an instruction.
func (r *reacher) to(at int) {
	if !r.reached[at] {
		r.reached[at] = true
		r.open = append(r.open, at)
	}
}

// all goes on till nothing new is reached. It keeps a list of its own for that: a
// chain of jumps can be as long as the program.
func (r *reacher) all() {
	for len(r.open) > 0 {
		last := len(r.open) - 1
		at := r.open[last]
		r.open = r.open[:last]
		r.on(at)
	}
}

// on goes on from one instruction. There is always a next one, since the last one
// of a program is a match.
func (r *reacher) on(at int) {
	x := r.program[at]
	switch x.Op {
	case api.OpSplit:
		r.to(x.X)
		r.to(x.Y)
	case api.OpJump:
		r.to(x.X)
	case api.OpBegin:
		if r.begin {
			r.to(at + 1)
		}
	case api.OpEnd:
		if r.end {
			r.to(at + 1)
		}
	}
}

// numbers is what was reached, rising.
func (r *reacher) numbers() []int {
	var l []int
	for at, is := range r.reached {
		if is {
			l = append(l, at)
		}
	}
	return l
}
