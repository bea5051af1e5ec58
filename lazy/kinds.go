package lazy

import (
	"maps"
	"slices"

	"trema/api"
	"trema/utf"
)

// longest is how many bytes a code point has at most.
const longest = 4

// The forms of texts that sets tell apart.
const (
	single = iota // of one code point
	longer        // of more
	odd           // of more, and one that some set has otherwise than those that begin so
	forms
)

// kinds tells texts apart as far as a program's sets do: each set has all texts of a
// kind, or none of them. So a state needn't know a text to know where it leads to.
type kinds struct {
	cuts []int32 // where a range begins, or the next number is behind its end, rising
	odd  []string
}

func kindsOf(p []api.Instr) kinds {
	cuts, odd := map[int32]struct{}{}, map[string]struct{}{}
	for i := range p {
		for _, l := range [][]api.Range{p[i].Set.Single, p[i].Set.Multi} {
			for _, x := range l {
				cuts[x.Lo], cuts[x.Hi+1] = struct{}{}, struct{}{}
			}
		}
		for _, text := range p[i].Set.Odd {
			odd[text] = struct{}{}
		}
	}
	return kinds{cuts: slices.Sorted(maps.Keys(cuts)), odd: slices.Sorted(maps.Keys(odd))}
}

// of is the number of a text's kind, from 1. The text isn't empty.
func (k *kinds) of(text string) int {
	if i, is := slices.BinarySearch(k.odd, text); is {
		return 1 + i*forms + odd
	}
	first := utf.Decode([]byte(text[:min(longest, len(text))]))[0]
	i, _ := slices.BinarySearch(k.cuts, first.Rune+1)
	if first.Width < len(text) {
		return 1 + i*forms + longer
	}
	return 1 + i*forms + single
}
