package segset

import (
	"math"
	"slices"
	"testing"
	"unicode/utf8"

	"trema/api"
)

// The least int32, MaxRune and the greatest int32, for short.
const (
	low  = math.MinInt32
	top  = api.MaxRune
	high = math.MaxInt32
)

// sample is a text, and what the chapters say of it: its first code point, how
// many it has, and whether it is well-formed.
type sample struct {
	text  string
	first int32
	count int
	well  bool
}

var samples = []sample{
	{"", 0, 0, true},
	// ordinary ones
	{"a", 'a', 1, true}, {"e", 'e', 1, true}, {"z", 'z', 1, true}, {"E", 'E', 1, true}, {"\u0301", 0x301, 1, true}, {"\u00E9", 0xE9, 1, true},
	{"\u07FF", 0x7FF, 1, true}, {"\u0800", 0x800, 1, true}, {"\uD7FF", 0xD7FF, 1, true}, {"\uE000", 0xE000, 1, true}, {"\U00010000", 0x10000, 1, true},
	{"a\u0301", 'a', 2, true}, {"a\u0302", 'a', 2, true}, {"ab", 'a', 2, true}, {"aa", 'a', 2, true}, {"aaa", 'a', 3, true},
	{"e\u0301", 'e', 2, true}, {"e\u0302", 'e', 2, true}, {"ex", 'e', 2, true}, {"e\u0323\u0301", 'e', 3, true}, {"E\u0301", 'E', 2, true},
	{"\u0301\u0301", 0x301, 2, true}, {"\u00E9\u0301", 0xE9, 2, true}, {"\u20AC\u0301", 0x20AC, 2, true}, {"\U00010000\u0301", 0x10000, 2, true},
	{"\U00010000\U00010000", 0x10000, 2, true}, {"a\U0001F600", 'a', 2, true},
	// both ends
	{"\x00", 0, 1, true}, {"\x00\x00", 0, 2, true}, {"\x00a", 0, 2, true}, {"a\x00", 'a', 2, true}, {"\x01", 1, 1, true}, {"\x01\x00", 1, 2, true},
	{"\U0010FFFF", top, 1, true}, {"\U0010FFFFa", top, 2, true}, {"\U0010FFFF\U0010FFFF", top, 2, true}, {"a\U0010FFFF", 'a', 2, true},
	{"\U0010FFFE", top - 1, 1, true}, {"\U0010FFFE\u0301", top - 1, 2, true},
	// U+FFFD as a code point
	{"\uFFFD", 0xFFFD, 1, true}, {"\uFFFD\uFFFD", 0xFFFD, 2, true}, {"\uFFFDx", 0xFFFD, 2, true}, {"x\uFFFD", 'x', 2, true},
	{"\uFFFC", 0xFFFC, 1, true}, {"\uFFFE", 0xFFFE, 1, true}, {"\uFFFC\u0301", 0xFFFC, 2, true},
	// and as what ill-formed pieces are read as
	{"\xFF", 0xFFFD, 1, false}, {"\x80", 0xFFFD, 1, false}, {"\xC3", 0xFFFD, 1, false}, {"\xE2\x82", 0xFFFD, 1, false}, {"\xEF\xBF", 0xFFFD, 1, false},
	{"\xF0\x90\x80", 0xFFFD, 1, false}, {"\xF4\x8F\xBF", 0xFFFD, 1, false},
	{"\xFF\xFF", 0xFFFD, 2, false}, {"\xFFx", 0xFFFD, 2, false}, {"x\xFF", 'x', 2, false}, {"\xE2\x82x", 0xFFFD, 2, false}, {"\xE2\x28", 0xFFFD, 2, false},
	{"\xC0\x80", 0xFFFD, 2, false}, {"\xED\xA0\x80", 0xFFFD, 3, false}, {"\xF0\x90\x80x", 0xFFFD, 2, false}, {"\xF0\x90\x80\xF0", 0xFFFD, 2, false},
	{"\xF4\x90\x80\x80", 0xFFFD, 4, false}, {"\xF5\x80\x80\x80", 0xFFFD, 4, false}, {"\xFF\uFFFD", 0xFFFD, 2, false}, {"\uFFFD\xFF", 0xFFFD, 2, false},
	{"e\u0301\xFF", 'e', 3, false}, {"e\xCC", 'e', 2, false}, {"a\xEF\xBF", 'a', 2, false}, {"a\xF0\x90\x80", 'a', 2, false}, {"\xEF\xBF\uFFFD", 0xFFFD, 2, false},
	{"\U0010FFFF\x80", top, 2, false}, {"\x00\xFF", 0, 2, false}, {"\u20AC\x80", 0x20AC, 2, false},
}

// in is what the chapter's words say of a set and a text.
func in(s api.Set, x sample) bool {
	switch {
	case x.count == 0:
		return false
	case x.count == 1:
		return held(s.Single, x.first)
	}
	return held(s.Multi, x.first) && !odd(s, x.text) || !held(s.Multi, x.first) && odd(s, x.text)
}

// held is what the words of layer 5 say of a list and a number.
func held(l []api.Range, n int32) bool {
	for _, x := range l {
		if 0 <= n && n <= top && x.Lo <= n && n <= x.Hi {
			return true
		}
	}
	return false
}

func odd(s api.Set, text string) bool {
	for _, t := range s.Odd {
		if t == text {
			return true
		}
	}
	return false
}

// normal is what the chapter's words say of a set.
func normal(s api.Set) bool {
	for i, text := range s.Odd {
		if !utf8.ValidString(text) || utf8.RuneCountInString(text) < 2 {
			return false
		}
		if i > 0 && s.Odd[i-1] >= text {
			return false
		}
	}
	return normalList(s.Single) && normalList(s.Multi)
}

// normalList is what the words of layer 5 say of a list.
func normalList(l []api.Range) bool {
	for i, x := range l {
		if x.Lo > x.Hi || x.Lo < 0 || x.Hi > top {
			return false
		}
		if i > 0 && int64(x.Lo) < int64(l[i-1].Hi)+2 {
			return false
		}
	}
	return true
}

// places are both ends of all ranges and of all numbers, with their neighbours:
// what lies between two of them, a list has all or none of.
func places(lists ...[]api.Range) []int32 {
	l := []int32{low, -1, 0, 1, top - 1, top, top + 1, high}
	for _, list := range lists {
		for _, x := range list {
			l = append(l, x.Lo-1, x.Lo, x.Lo+1, x.Hi-1, x.Hi, x.Hi+1)
		}
	}
	slices.Sort(l)
	return slices.Compact(l)
}

// members sees to it that an answer is normal, and has just what keep says of what
// is in a and in b, both of them normal: each number, and each of the samples.
func members(t *testing.T, what string, got, a, b api.Set, keep func(inA, inB bool) bool) {
	t.Helper()
	if !normal(got) {
		t.Fatalf("%s of %q and %q: %q isn't normal", what, a, b, got)
	}
	for _, c := range []struct{ got, a, b []api.Range }{{got.Single, a.Single, b.Single}, {got.Multi, a.Multi, b.Multi}} {
		for _, n := range places(c.got, c.a, c.b) {
			if want := 0 <= n && n <= top && keep(held(c.a, n), held(c.b, n)); held(c.got, n) != want {
				t.Fatalf("%s of %q and %q: %q, but %#x in it should be %v", what, a, b, got, n, want)
			}
		}
	}
	for _, x := range samples {
		want := x.text != "" && keep(in(a, x), in(b, x))
		if in(got, x) != want {
			t.Fatalf("%s of %q and %q: %q, but %q in it should be %v", what, a, b, got, x.text, want)
		}
		if Has(got, x.text) != want {
			t.Fatalf("Has(%q, %q): %v", got, x.text, !want)
		}
	}
}

// pairs is the list of the ranges from each first number to its second one.
func pairs(numbers ...int32) []api.Range {
	var l []api.Range
	for i := 0; i < len(numbers); i += 2 {
		l = append(l, api.Range{Lo: numbers[i], Hi: numbers[i+1]})
	}
	return l
}

// set is a set with these fields.
func set(single, multi []api.Range, odd ...string) api.Set {
	return api.Set{Single: single, Multi: multi, Odd: odd}
}

// alike says whether two sets are the same field by field.
func alike(a, b api.Set) bool {
	return slices.Equal(a.Single, b.Single) && slices.Equal(a.Multi, b.Multi) && slices.Equal(a.Odd, b.Odd)
}

func want(t *testing.T, what string, got, want api.Set) {
	t.Helper()
	if alike(got, want) {
		return
	}
	if len(got.Odd)+len(want.Odd)+len(got.Multi)+len(want.Multi) > 200 {
		t.Fatalf("%s: %d, %d and %d, but should be %d, %d and %d", what, len(got.Single), len(got.Multi), len(got.Odd), len(want.Single), len(want.Multi), len(want.Odd))
	}
	t.Fatalf("%s: %q, but should be %q", what, got, want)
}

// copyOf is a set with lists of its own.
func copyOf(s api.Set) api.Set {
	return api.Set{Single: slices.Clone(s.Single), Multi: slices.Clone(s.Multi), Odd: slices.Clone(s.Odd)}
}

// spoil writes over all that a list reaches.
func spoil[E any](l []E, with E) {
	l = l[:cap(l)]
	for i := range l {
		l[i] = with
	}
}
