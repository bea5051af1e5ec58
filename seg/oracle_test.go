package seg

import (
	"fmt"
	"math"
	"slices"
	"strings"
	"testing"
	"unicode/utf8"

	"trema/api"
	"trema/norm"
	"trema/ucd"
	"trema/utf"
)

// said are the segments that the chapter's words give of b: first all places at
// which it is cut, then the normal form of the bytes from one to the next.
func said(b []byte) []api.Segment {
	var places []int
	for _, p := range utf.Decode(b) {
		first := ucd.Decompose(p.Rune)[0]
		if p.At == 0 || ucd.Class(first) == 0 && !ucd.Trailing(first) {
			places = append(places, p.At)
		}
	}
	var l []api.Segment
	for i, at := range places {
		end := len(b)
		if i+1 < len(places) {
			end = places[i+1]
		}
		l = append(l, api.Segment{Text: norm.Text(b[at:end]), At: at, End: end})
	}
	return l
}

// long is the length of a segment.
func long(s api.Segment) int {
	return utf8.RuneCountInString(s.Text)
}

// upTo are the segments ahead of the bad one, with ErrSegment, or all of them.
func upTo(l []api.Segment, limit int) ([]api.Segment, api.Errno) {
	for i, s := range l {
		if long(s) > limit {
			return l[:i], api.ErrSegment
		}
	}
	return l, api.OK
}

// soFar is what Writes tell in all while more bytes than b may come, and what
// Pending is then.
func soFar(b []byte, limit int) (l []api.Segment, pending int, e api.Errno) {
	sure := 0
	for _, p := range utf.New().Write(b) {
		sure += p.Width
	}
	l, e = upTo(said(b[:sure]), limit)
	if e == api.OK && len(l) > 0 {
		pending = long(l[len(l)-1])
		l = l[:len(l)-1]
	}
	return l, pending, e
}

// pieces are texts of which texts are made: what opens, what trails and marks,
// with normal forms of one, two and three code points, and ill-formed ones.
var pieces = []string{
	"x", "e", "\u00E9", "\u1E69", "\u212B", "\u0301", "\u0323", "\u0344", "\u034F",
	"\uAC01", "\uAC00", "\u1100", "\u1161", "\u11A8", "\uFFFD", "\U0001F600",
	"\xFF", "\xE2\x82", "\xF0\x90\x80", "\xCC", "\x81",
}

// chunked are texts in which each kind of piece stands at the front, in the midst
// and at the end, short enough for every cut of them.
var chunked = []string{
	"", "x", "\u0301", "\u00E9", "e\u0301x", "\u00E9x", "\u0301x", "xa\u0301\u0302", "a\u0301\u0302b", "\u1E69\u0301",
	"\uAC01\u11A8", "\u1100\u1161\u11A8", "\u1161\u11A8x", "\uAC00\u0301\u1161", "\xFFA", "e\xCC", "e\xCC\x81x", "e\xE2\x82",
	"\xE2\x82\u0301", "\xF0\x90\x80\u0344x", "\xCC\xCC\x81", "x\xF0\x9F\x98\x80\u0301", "\xED\xA0\x80\u0323", "\u034F\u0344\u034F",
	"x\u1E69\xF0\x90", "\u0345\u0344\u0338", "\x81\x81\u00E9\xC3", "\x00\u0301\x00",
}

// eachOf hands every text of up to that many pieces to f.
func eachOf(pieces []string, count int, f func(string)) {
	var fill func(string, int)
	fill = func(text string, more int) {
		f(text)
		if more == 0 {
			return
		}
		for _, p := range pieces {
			fill(text+p, more-1)
		}
	}
	fill("", count)
}

// cutAt cuts b behind its i-th byte where the i-th bit is set.
func cutAt(b []byte, cuts int) [][]byte {
	var chunks [][]byte
	from := 0
	for i := 1; i < len(b); i++ {
		if cuts>>(i-1)&1 == 1 {
			chunks = append(chunks, b[from:i])
			from = i
		}
	}
	return append(chunks, b[from:])
}

// mixed is a text of all pieces, long enough that places need more than two
// bytes, with marks up to that many in a row; the same at each call.
func mixed(length, most int) []byte {
	marks := []string{"\u0301", "\u0323", "\u0338", "\u0344", "\u1161", "\u0345"}
	state := uint32(1)
	next := func(n int) int {
		state = state*1664525 + 1013904223
		return int(state >> 16 % uint32(n))
	}
	var b []byte
	for len(b) < length {
		b = append(b, pieces[next(len(pieces))]...)
		for range next(most + 1) {
			b = append(b, marks[next(len(marks))]...)
		}
		b = append(b, 'x')
	}
	return b
}

// marked is a segment of the length n: a letter, and marks of two classes.
func marked(n int) string {
	return "e" + strings.Repeat("\u0301\u0323", n)[:2*(n-1)]
}

// noLimits are numbers that are no limits, some of which an answer that cuts a
// number short would take for others.
var noLimits = []int{
	0, api.MaxSegment + 1, -1, -api.MaxSegment, 128, 256 + 1, 1<<16 + 1, 1<<32 + 1, 1<<32 + api.MaxSegment,
	math.MinInt, math.MinInt + 1, math.MaxInt, math.MinInt32, math.MaxInt32,
}

func same(t *testing.T, what string, b []byte, got, want []api.Segment) {
	t.Helper()
	if !slices.Equal(got, want) {
		t.Fatalf("%s of %+q: %s, but should be %s", what, b, shown(got), shown(want))
	}
}

// shown is a list with its marks apart from their letters.
func shown(l []api.Segment) string {
	text := ""
	for _, s := range l {
		text += fmt.Sprintf("{%+q %d %d}", s.Text, s.At, s.End)
	}
	return "[" + text + "]"
}

// spoil writes over all that an answer reaches.
func spoil[E any](l []E) {
	clear(l[:cap(l)])
}
