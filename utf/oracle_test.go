package utf

import (
	"slices"
	"testing"
	"unicode/utf8"

	"trema/api"
)

// bounds are the bytes that may stand at one place of a sequence.
type bounds struct{ low, high byte }

// table is the chapter's table of well-formed sequences, a row a line of it (a
// row for each range of first bytes).
var table = [][]bounds{
	{{0x00, 0x7F}},
	{{0xC2, 0xDF}, {0x80, 0xBF}},
	{{0xE0, 0xE0}, {0xA0, 0xBF}, {0x80, 0xBF}},
	{{0xE1, 0xEC}, {0x80, 0xBF}, {0x80, 0xBF}},
	{{0xEE, 0xEF}, {0x80, 0xBF}, {0x80, 0xBF}},
	{{0xED, 0xED}, {0x80, 0x9F}, {0x80, 0xBF}},
	{{0xF0, 0xF0}, {0x90, 0xBF}, {0x80, 0xBF}, {0x80, 0xBF}},
	{{0xF1, 0xF3}, {0x80, 0xBF}, {0x80, 0xBF}, {0x80, 0xBF}},
	{{0xF4, 0xF4}, {0x80, 0x8F}, {0x80, 0xBF}, {0x80, 0xBF}},
}

// matching is how many bytes at the front of b fit a row.
func matching(b []byte, row []bounds) int {
	n := 0
	for n < len(row) && n < len(b) && row[n].low <= b[n] && b[n] <= row[n].high {
		n++
	}
	return n
}

// piece is the width of the piece at the front of b, whether it is whole, and
// whether it is the beginning of a longer sequence.
func piece(b []byte) (width int, whole, beginning bool) {
	width = 1
	for _, row := range table {
		n := matching(b, row)
		if n == len(row) {
			return n, true, false
		}
		if n > 0 {
			width, beginning = n, true
		}
	}
	return width, false, beginning
}

// reading is what the chapter's words say of b, and how many of the code points
// are sure while more bytes may come.
func reading(b []byte) (l []api.Point, sure int) {
	for at := 0; at < len(b); {
		width, whole, beginning := piece(b[at:])
		p := api.Point{Rune: 0xFFFD, At: at, Width: width}
		if whole {
			p.Rune, _ = utf8.DecodeRune(b[at : at+width])
		}
		l = append(l, p)
		at += width
		if whole || !beginning || at < len(b) {
			sure++
		}
	}
	return l, sure
}

// wide are the sums of a list's widths.
func wide(l []api.Point) int {
	n := 0
	for _, p := range l {
		n += p.Width
	}
	return n
}

// runes are the numbers of a list.
func runes(l []api.Point) []int32 {
	var r []int32
	for _, p := range l {
		r = append(r, p.Rune)
	}
	return r
}

// edges are the bytes at which the table's ranges begin and end, and those
// beside them.
var edges = []byte{
	0x00, 0x41, 0x7F, 0x80, 0x8F, 0x90, 0x9F, 0xA0, 0xBF, 0xC0, 0xC1, 0xC2,
	0xDF, 0xE0, 0xE1, 0xEC, 0xED, 0xEE, 0xEF, 0xF0, 0xF1, 0xF3, 0xF4, 0xF5, 0xFF,
}

// eachOf hands every list of that many of the bytes to f, which must not keep it.
func eachOf(bytes []byte, length int, f func([]byte)) {
	list := make([]byte, length)
	var fill func(int)
	fill = func(i int) {
		if i == length {
			f(list)
			return
		}
		for _, c := range bytes {
			list[i] = c
			fill(i + 1)
		}
	}
	fill(0)
}

// mixed are bytes in which all kinds of pieces come, long enough that places
// need more than two bytes; the same at each call.
func mixed(length int) []byte {
	parts := []string{
		"a", "\u00E9", "\u20AC", "\U0001F600", "\uFFFD", "\uFEFF", "\x00", "\U0010FFFF",
		"\xE2\x82", "\xF0\x90\x80", "\xC0\x80", "\xED\xA0\x80", "\xF4\x90", "\xF0", "\x80", "\xFF",
	}
	var b []byte
	for state := uint32(1); len(b) < length; {
		state = state*1664525 + 1013904223
		b = append(b, parts[state>>28]...)
	}
	return b
}

func same(t *testing.T, what string, b []byte, got, want []api.Point) {
	t.Helper()
	if !slices.Equal(got, want) {
		t.Fatalf("%s of % X: %v, but should be %v", what, b, got, want)
	}
}
