package syntax

import (
	"trema/api"
	"trema/segset"
)

// endless stands for the Max of a repeat that has none.
const endless = -1

// operands is how many things a step of a kind takes.
func operands(kind int) int {
	switch kind {
	case api.NodeCat, api.NodeOr:
		return 2
	case api.NodeRepeat:
		return 1
	}
	return 0
}

// fits says whether a step's fields are such as its kind asks for.
func fits(n api.Node) bool {
	switch n.Kind {
	case api.NodeSet:
		return segset.May(n.Set) && n.Min == 0 && n.Max == 0
	case api.NodeRepeat:
		return bare(n.Set) && often(n.Min, n.Max)
	case api.NodeEmpty, api.NodeBegin, api.NodeEnd, api.NodeCat, api.NodeOr:
		return bare(n.Set) && n.Min == 0 && n.Max == 0
	}
	return false
}

// bare says whether a step has no set: a set without texts would be one too.
func bare(s api.Set) bool {
	return len(s.Single) == 0 && len(s.Multi) == 0 && len(s.Odd) == 0
}

// often says whether a thing may be repeated so often.
func often(least, most int) bool {
	if least < 0 || least > api.MaxRepeat {
		return false
	}
	return most == endless || least <= most && most <= api.MaxRepeat
}
