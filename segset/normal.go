package segset

import (
	"cmp"
	"slices"

	"trema/api"
	"trema/rset"
)

// not is what isn't in a normal set. It keeps Odd: a text that is otherwise than
// those that begin as it does is so on the other side, too.
func not(s api.Set) api.Set {
	return api.Set{Single: rset.Not(s.Single), Multi: rset.Not(s.Multi), Odd: s.Odd}
}

// meet is what is in both of two normal sets. Just a text that is odd in one of
// them can be otherwise than those that begin as it does.
func meet(a, b api.Set) api.Set {
	s := api.Set{Single: rset.Meet(a.Single, b.Single), Multi: rset.Meet(a.Multi, b.Multi)}
	for _, text := range rising(a.Odd, b.Odd) {
		r, _ := first(text)
		if (member(a, text, r) && member(b, text, r)) != holds(s.Multi, r) {
			s.Odd = append(s.Odd, text)
		}
	}
	return s
}

// member is Has of a normal set and a text of more code points than r, its first.
func member(s api.Set, text string, r int32) bool {
	_, odd := slices.BinarySearch(s.Odd, text)
	return holds(s.Multi, r) != odd
}

// holds is rset.Has of a normal list. It needs no look at each range, so that sets
// with many texts and many ranges meet soon enough.
func holds(l []api.Range, r int32) bool {
	i, _ := slices.BinarySearchFunc(l, r, func(x api.Range, r int32) int { return cmp.Compare(x.Hi, r) })
	return i < len(l) && l[i].Lo <= r
}

// same says whether two sets are the same field by field.
func same(a, b api.Set) bool {
	return slices.Equal(a.Single, b.Single) && slices.Equal(a.Multi, b.Multi) && slices.Equal(a.Odd, b.Odd)
}
