package rset

import (
	"math"
	"slices"
	"testing"

	"trema/api"
)

// pairs is the list of the ranges from each first number to its second one.
func pairs(numbers ...int32) []api.Range {
	var l []api.Range
	for i := 0; i < len(numbers); i += 2 {
		l = append(l, api.Range{Lo: numbers[i], Hi: numbers[i+1]})
	}
	return l
}

// in is what the chapter's words say of a number and a list.
func in(l []api.Range, n int64) bool {
	for _, x := range l {
		if 0 <= n && n <= api.MaxRune && int64(x.Lo) <= n && n <= int64(x.Hi) {
			return true
		}
	}
	return false
}

// normal is what the chapter's words say of a list.
func normal(l []api.Range) bool {
	for i, x := range l {
		if x.Lo > x.Hi || x.Lo < 0 || x.Hi > api.MaxRune {
			return false
		}
		if i > 0 && int64(x.Lo) < int64(l[i-1].Hi)+2 {
			return false
		}
	}
	return true
}

// places are the ends of all ranges, and of all numbers, with three numbers on
// both sides of each: what a list has between two of them, it has all or none of.
func places(lists ...[]api.Range) []int64 {
	ends := []int64{0, api.MaxRune, math.MinInt32, math.MaxInt32}
	for _, l := range lists {
		for _, x := range l {
			ends = append(ends, int64(x.Lo), int64(x.Hi))
		}
	}
	var all []int64
	for _, n := range ends {
		for k := n - 3; k <= n+3; k++ {
			all = append(all, k)
		}
	}
	slices.Sort(all)
	return slices.Compact(all)
}

// members sees to it that an answer is normal, and has just the numbers of which
// is says so.
func members(t *testing.T, what string, got, a, b []api.Range, is func(n int64) bool) {
	t.Helper()
	if !normal(got) {
		t.Fatalf("%s of %v and %v: %v isn't normal", what, a, b, got)
	}
	for _, n := range places(got, a, b) {
		want := 0 <= n && n <= api.MaxRune && is(n)
		if in(got, n) != want {
			t.Fatalf("%s of %v and %v: %v, but %d in it should be %v", what, a, b, got, n, want)
		}
	}
}

// eachOf hands every list of up to that many of the ranges to f, which must not
// keep it.
func eachOf(ranges []api.Range, length int, f func([]api.Range)) {
	list := make([]api.Range, length)
	var fill func(int)
	fill = func(i int) {
		f(list[:i:i])
		if i == length {
			return
		}
		for _, x := range ranges {
			list[i] = x
			fill(i + 1)
		}
	}
	fill(0)
}

// few are ranges that are apart, touch, overlap and lie in one another, single
// numbers, and such that reach beyond both ends, lie there, or mean nothing.
var few = pairs(
	0, 0, 1, 1, 2, 2, 3, 5, 4, 9, 7, 7,
	-5, 2, -9, -1, math.MinInt32, math.MaxInt32, math.MinInt32, 0, 9, math.MaxInt32,
	api.MaxRune, api.MaxRune, api.MaxRune-1, api.MaxRune-1, api.MaxRune-4, api.MaxRune+4, api.MaxRune+1, api.MaxRune+1,
	5, 3, math.MaxInt32, math.MinInt32, api.MaxRune+3, api.MaxRune+1,
)

// ends are numbers of which every range is made.
var ends = []int32{
	math.MinInt32, math.MinInt32 + 1, -2, -1, 0, 1, 2, 3, 4, 5,
	0xD7FF, 0xD800, 0xFFFF, 0x10000, 1 << 24,
	api.MaxRune - 2, api.MaxRune - 1, api.MaxRune, api.MaxRune + 1, api.MaxRune + 2, math.MaxInt32 - 1, math.MaxInt32,
}

// many is a list of so many ranges in no order, most of them short, some of them
// meaning nothing; the same at each call with the same seed.
func many(seed uint32, length, width int) []api.Range {
	next := func(n int) int32 {
		seed = seed*1664525 + 1013904223
		return int32(seed >> 8 % uint32(n))
	}
	var l []api.Range
	for range length {
		lo := next(api.MaxRune+3) - 1
		l = append(l, api.Range{Lo: lo, Hi: lo + next(width) - 2})
	}
	return l
}

// table says of each number from 0 to MaxRune whether it is in a list.
func table(l []api.Range) []bool {
	has := make([]bool, api.MaxRune+1)
	for _, x := range l {
		for n := max(x.Lo, 0); n <= min(x.Hi, api.MaxRune); n++ {
			has[n] = true
		}
	}
	return has
}

// listed is the normal list of a table.
func listed(has []bool) []api.Range {
	var l []api.Range
	for n := int32(0); n <= api.MaxRune; n++ {
		if !has[n] {
			continue
		}
		lo := n
		for n < api.MaxRune && has[n+1] {
			n++
		}
		l = append(l, api.Range{Lo: lo, Hi: n})
	}
	return l
}

func same(t *testing.T, what string, got, want []api.Range) {
	t.Helper()
	if !slices.Equal(got, want) {
		if len(got)+len(want) > 200 {
			t.Fatalf("%s: %d ranges, but should be %d", what, len(got), len(want))
		}
		t.Fatalf("%s: %v, but should be %v", what, got, want)
	}
}

// spoil writes over all that an answer reaches.
func spoil(l []api.Range) {
	l = l[:cap(l)]
	for i := range l {
		l[i] = api.Range{Lo: -7, Hi: 70}
	}
}
