package rset

import (
	"cmp"
	"slices"

	"trema/api"
)

// A sweep goes over the numbers from 0 to MaxRune, and tells those that it keeps.
type sweep struct {
	// keep is told in which of both lists' sets a number is.
	keep func(inA, inB bool) bool
}

// edge is a number at which a range of one of both lists begins (more is 1), or
// behind which it ended (-1).
type edge struct {
	at, list, more int
}

// over tells the normal list of what is kept. All numbers from one edge up to the
// next are in the same sets. Edges may stand at one place, in any order, since
// nothing lies between them.
func (s sweep) over(a, b []api.Range) []api.Range {
	var l []api.Range
	var holding [2]int // how many ranges of each list hold the numbers ahead of the next edge
	from := 0
	for _, e := range edges(a, b) {
		if from < e.at && s.keep(holding[0] > 0, holding[1] > 0) {
			l = join(l, api.Range{Lo: int32(from), Hi: int32(e.at - 1)})
		}
		from = e.at
		holding[e.list] += e.more
	}
	return l
}

// edges are those of both lists, rising. There is one behind all numbers, whatever
// the lists are, so that none of them is left out.
func edges(a, b []api.Range) []edge {
	l := []edge{{at: api.MaxRune + 1}}
	for i, list := range [][]api.Range{a, b} {
		for _, x := range list {
			lo, hi := max(x.Lo, 0), min(x.Hi, api.MaxRune)
			if lo <= hi {
				l = append(l, edge{int(lo), i, 1}, edge{int(hi) + 1, i, -1})
			}
		}
	}
	slices.SortFunc(l, func(x, y edge) int { return cmp.Compare(x.at, y.at) })
	return l
}

// join appends a range that lies behind all others. If nothing lies between it and
// the last one, both become one.
func join(l []api.Range, x api.Range) []api.Range {
	if n := len(l); n > 0 && l[n-1].Hi+1 == x.Lo {
		l[n-1].Hi = x.Hi
		return l
	}
	return append(l, x)
}
