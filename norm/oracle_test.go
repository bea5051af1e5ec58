package norm

import (
	"math"
	"slices"
	"testing"

	"trema/api"
	"trema/ucd"
)

// formed is what the chapter's words say of l, by exchanging neighbours that
// stand the wrong way round till there are none.
func formed(l []int32) []int32 {
	var full []int32
	for _, r := range l {
		full = append(full, ucd.Decompose(r)...)
	}
	for again := true; again; {
		again = false
		for i := 1; i < len(full); i++ {
			ahead, behind := ucd.Class(full[i-1]), ucd.Class(full[i])
			if behind > 0 && ahead > behind {
				full[i-1], full[i] = full[i], full[i-1]
				again = true
			}
		}
	}
	return full
}

// sure is how much of a normal form goes up to its last starter.
func sure(full []int32) int {
	for i := len(full); i > 0; i-- {
		if ucd.Class(full[i-1]) == 0 {
			return i
		}
	}
	return 0
}

// kinds are numbers of which lists are made: starters that open and that trail,
// marks of one class and of others, numbers that decompose to one, two and three,
// to marks alone too, and numbers that are no code points.
var kinds = []int32{
	0x61, 0x1161, 0x34F, 0xE9, 0x1E69, 0x212B, 0xAC01,
	0x301, 0x308, 0x323, 0x345, 0x338, 0x3099, 0x344, 0x340,
	-1, 0xD800, api.MaxRune + 1,
}

// wrong are numbers that are no code points, some of which an answer that cuts a
// number short would take for others.
var wrong = []int32{
	math.MinInt32, -0x301, -0x41, -1, 0xD800, 0xDBFF, 0xDC00, 0xDFFF, 0x110000, 0x110301, 1<<24 | 0xE9, 1<<24 | 0x301,
	math.MinInt32 | 0xE9, math.MinInt32 | 0x301, math.MaxInt32,
}

// eachOf hands every list of up to that many of the numbers to f, which must not
// keep it.
func eachOf(numbers []int32, length int, f func([]int32)) {
	list := make([]int32, length)
	var fill func(int)
	fill = func(i int) {
		f(list[:i])
		if i == length {
			return
		}
		for _, r := range numbers {
			list[i] = r
			fill(i + 1)
		}
	}
	fill(0)
}

// mixed are kinds in which runs of marks come, up to some dozens of them long;
// the same at each call.
func mixed(length int) []int32 {
	marks := []int32{0x301, 0x308, 0x323, 0x331, 0x345, 0x338, 0x3099, 0x344, 0x340, 0x327, 0x31B, 0x302}
	var l []int32
	state := uint32(1)
	next := func(n int) int {
		state = state*1664525 + 1013904223
		return int(state >> 16 % uint32(n))
	}
	for len(l) < length {
		l = append(l, kinds[next(len(kinds))])
		for range next(50) {
			l = append(l, marks[next(len(marks))])
		}
	}
	return l[:length]
}

// run is a long run of marks of four classes, two of each, and that run in order.
func run(length int) (l, ordered []int32) {
	rows := [][]int32{{0x334, 0x338}, {0x327, 0x328}, {0x323, 0x316}, {0x301, 0x308}}
	sorted := make([][]int32, len(rows))
	for i := range length {
		k := i * 3 % len(rows)
		r := rows[k][i/len(rows)%5%2]
		l = append(l, r)
		sorted[k] = append(sorted[k], r)
	}
	return l, slices.Concat(sorted...)
}

func same(t *testing.T, what string, in, got, want []int32) {
	t.Helper()
	if !slices.Equal(got, want) {
		t.Fatalf("%s of %X: %X, but should be %X", what, in, got, want)
	}
}

// spoil writes over all that an answer reaches.
func spoil(l []int32) {
	l = l[:cap(l)]
	for i := range l {
		l[i] = -7
	}
}
