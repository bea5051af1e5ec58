package prog

import (
	"slices"

	"trema/api"
)

// writer writes the codes of things one behind the other, so that a row needs no
// moving. Till the whole is there, X and Y say how far it is from the instruction
// itself, so that a code can be moved and copied as it stands.
type writer struct {
	code   []api.Instr
	begins []int // where the codes begin that no operator has taken yet
}

// code is the code of steps that are not too heavy, X and Y as the writer has them.
func code(l []api.Node) []api.Instr {
	var w writer
	for _, n := range needed(l) {
		w.step(n)
	}
	return w.code
}

// needed is the steps without those that leave no trace: what is repeated no times,
// and a repeat of once. So each operator makes the code longer, or has next to
// nothing to do, and what waits for an operator is never more than the whole.
func needed(l []api.Node) []api.Node {
	var kept []api.Node
	skip := 0 // how many things are still to be left out
	for _, n := range slices.Backward(l) {
		switch {
		case skip > 0:
			skip += operands(n.Kind) - 1
		case n.Kind == api.NodeRepeat && n.Max == 0:
			skip = 1
			kept = append(kept, api.Node{Kind: api.NodeEmpty})
		case n.Kind == api.NodeRepeat && n.Min == 1 && n.Max == 1:
		default:
			kept = append(kept, n)
		}
	}
	slices.Reverse(kept)
	return kept
}

func (w *writer) step(n api.Node) {
	switch n.Kind {
	case api.NodeCat:
		w.take()
	case api.NodeOr:
		second := w.take()
		w.choose(w.begins[len(w.begins)-1], second)
	case api.NodeRepeat:
		w.repeat(w.begins[len(w.begins)-1], n.Min, n.Max)
	default:
		w.begins = append(w.begins, len(w.code))
		w.single(n)
	}
}

// take makes the last code a part of the one ahead of it, and says where it begins.
func (w *writer) take() int {
	last := len(w.begins) - 1
	begin := w.begins[last]
	w.begins = w.begins[:last]
	return begin
}

// single writes the code of a step without operands.
func (w *writer) single(n api.Node) {
	switch n.Kind {
	case api.NodeSet:
		w.code = append(w.code, api.Instr{Op: api.OpSet, Set: n.Set})
	case api.NodeBegin:
		w.code = append(w.code, api.Instr{Op: api.OpBegin})
	case api.NodeEnd:
		w.code = append(w.code, api.Instr{Op: api.OpEnd})
	}
}

// choose makes a choice of the last two codes.
func (w *writer) choose(first, second int) {
	a, b := second-first, len(w.code)-second
	w.code = slices.Insert(w.code, second, api.Instr{Op: api.OpJump, X: b + 1})
	w.code = slices.Insert(w.code, first, api.Instr{Op: api.OpSplit, X: 1, Y: a + 2})
}

// repeat repeats the last code, that from begin on.
func (w *writer) repeat(begin, least, most int) {
	body := slices.Clone(w.code[begin:])
	w.code = w.code[:begin]
	for range least {
		w.code = append(w.code, body...)
	}
	if most == endless {
		w.loop(body)
		return
	}
	for done := range most - least {
		left := most - least - done
		w.code = append(w.code, api.Instr{Op: api.OpSplit, X: 1, Y: left * (len(body) + 1)})
		w.code = append(w.code, body...)
	}
}

// loop writes a code that is repeated as often as one likes.
func (w *writer) loop(body []api.Instr) {
	n := len(body)
	w.code = append(w.code, api.Instr{Op: api.OpSplit, X: 1, Y: n + 2})
	w.code = append(w.code, body...)
	w.code = append(w.code, api.Instr{Op: api.OpJump, X: -n - 1})
}

// program is the program of a whole code: X and Y are counted from 0 there, and each
// instruction has a set of its own, also where a code was copied.
func program(code []api.Instr) []api.Instr {
	p := make([]api.Instr, 0, len(code)+1)
	for i, x := range code {
		switch x.Op {
		case api.OpSplit:
			x.X += i
			x.Y += i
		case api.OpJump:
			x.X += i
		}
		x.Set = copied(x.Set)
		p = append(p, x)
	}
	return append(p, api.Instr{Op: api.OpMatch})
}

func copied(s api.Set) api.Set {
	return api.Set{Single: slices.Clone(s.Single), Multi: slices.Clone(s.Multi), Odd: slices.Clone(s.Odd)}
}
