package prog

import "trema/api"

// endless stands for the Max of a repeat that has none.
const endless = -1

// operands is how many things a step of a kind takes.
func operands(kind int) int {
	switch kind {
	case api.NodeCat, api.NodeOr:
		return 2
	case api.NodeRepeat:
		return 1
	}
	return 0
}

// heavy says whether the code of a step is too long to have a match behind it: of
// any, since each step is the operand of another one, or the whole.
func heavy(l []api.Node) bool {
	var lengths []int // of the things that no operator has taken yet
	for _, n := range l {
		rest := len(lengths) - operands(n.Kind)
		x := length(n, lengths[rest:])
		if x > api.MaxWeight-1 {
			return true
		}
		lengths = append(lengths[:rest], x)
	}
	return false
}

// length is how many instructions a step's code has, by those of its operands.
func length(n api.Node, of []int) int {
	switch n.Kind {
	case api.NodeEmpty:
		return 0
	case api.NodeCat:
		return of[0] + of[1]
	case api.NodeOr:
		return of[0] + of[1] + 2
	case api.NodeRepeat:
		if n.Max == endless {
			return n.Min*of[0] + of[0] + 2
		}
		return n.Min*of[0] + (n.Max-n.Min)*(of[0]+1)
	}
	return 1
}
