package words

import (
	"math"
	"slices"
	"strings"
	"testing"

	"trema/api"
	"trema/seg"
	"trema/ucd"
	"trema/utf"
)

// P13.1, the chapter's examples, and the edges that it names.
func TestWords(t *testing.T) {
	for _, c := range []struct {
		in   string
		want []api.Word
	}{
		{"It's 3.5 \u00C9t\u00E9s, e.g. _x1", []api.Word{
			{Key: "it's", Span: api.Span{From: 0, To: 4, Start: 0, End: 4}},
			{Key: "3.5", Span: api.Span{From: 5, To: 8, Start: 5, End: 8}},
			{Key: "e\u0301te\u0301s", Span: api.Span{From: 9, To: 13, Start: 9, End: 15}},
			{Key: "e", Span: api.Span{From: 15, To: 16, Start: 17, End: 18}},
			{Key: "g", Span: api.Span{From: 17, To: 18, Start: 19, End: 20}},
			{Key: "_x1", Span: api.Span{From: 20, To: 23, Start: 22, End: 25}},
		}},
		{"'a' 1. .5", []api.Word{
			{Key: "a", Span: api.Span{From: 1, To: 2, Start: 1, End: 2}},
			{Key: "1", Span: api.Span{From: 4, To: 5, Start: 4, End: 5}},
			{Key: "5", Span: api.Span{From: 8, To: 9, Start: 8, End: 9}},
		}},
		{"\u00C9a b", []api.Word{
			{Key: "e\u0301a", Span: api.Span{From: 0, To: 2, Start: 0, End: 3}},
			{Key: "b", Span: api.Span{From: 3, To: 4, Start: 4, End: 5}},
		}},
		{"", nil},
		{"...", nil},
		{" \u0301\xFF\u2019", nil},
		// bytes that are not well-formed, ahead of a word, between and behind
		{"\xE2\x82A\u00DF\xF0\x90\x801\xC3", []api.Word{
			{Key: "ass", Span: api.Span{From: 1, To: 3, Start: 2, End: 5}},
			{Key: "1", Span: api.Span{From: 4, To: 5, Start: 8, End: 9}},
		}},
		// a joint of more than a byte, and letters of more than a code point
		{"I\u0307\u2019\u1100\u1161\u11A8\u00B7\u1E68", []api.Word{
			{Key: "i\u0307\u2019\u1100\u1161\u11A8\u00B7s\u0323\u0307", Span: api.Span{From: 0, To: 5, Start: 0, End: 20}},
		}},
		{"\u0345\u1FB3", []api.Word{{Key: "\u03B1\u03B9", Span: api.Span{From: 1, To: 2, Start: 2, End: 5}}}},
		{"\u1161b", []api.Word{{Key: "\u1161b", Span: api.Span{From: 0, To: 2, Start: 0, End: 4}}}},
	} {
		got, e := Words([]byte(c.in), 64)
		if e != api.OK || !slices.Equal(got, c.want) {
			t.Errorf("Words of %+q: %s, %v, but should be %s", c.in, shown(got), e, shown(c.want))
		}
		check(t, c.in)
	}
	if l, e := Words(nil, 1); len(l) != 0 || e != api.OK {
		t.Error(l, e)
	}
}

// P13.1, where words begin and end.
func TestWhereWordsEnd(t *testing.T) {
	for in, want := range map[string][]string{
		// letters, digits and strokes go together
		"a1b_": {"a1b_"}, "_": {"_"}, "__": {"__"}, "1a": {"1a"}, "a_1": {"a_1"}, "1_": {"1_"},
		"a-b": {"a", "b"}, "a b\tc\nd": {"a", "b", "c", "d"}, "a\u00A0b": {"a", "b"}, "a\x00b": {"a", "b"}, "a+b": {"a", "b"},
		// a letter's joint
		"a'b": {"a'b"}, "a\u2019b": {"a\u2019b"}, "a\u00B7b": {"a\u00B7b"}, "a'b'c": {"a'b'c"}, "a'b\u2019c\u00B7d": {"a'b\u2019c\u00B7d"},
		"1'2": {"1", "2"}, "1\u20192": {"1", "2"}, "1\u00B72": {"1", "2"}, "a'1": {"a", "1"}, "1'a": {"1", "a"},
		"_'_": {"_", "_"}, "a'_": {"a", "_"}, "_'a": {"_", "a"}, "_a'b_": {"_a'b_"},
		// a digit's joint
		"1.2": {"1.2"}, "1,2": {"1,2"}, "1,234.5": {"1,234.5"}, "1.2.3": {"1.2.3"},
		"a.b": {"a", "b"}, "a,b": {"a", "b"}, "a.1": {"a", "1"}, "1.a": {"1", "a"}, "1,a": {"1", "a"}, "a,1": {"a", "1"},
		"_._": {"_", "_"}, "1._": {"1", "_"}, "_.1": {"_", "1"}, "_1.2_": {"_1.2_"},
		"a1.2b": {"a1.2b"}, "1a.b2": {"1a", "b2"}, "1a'b2": {"1a'b2"}, "a1'2b": {"a1", "2b"},
		// at a text's beginning and end, and alone
		"'a": {"a"}, "a'": {"a"}, "'a'": {"a"}, ".1": {"1"}, "1.": {"1"}, ",1,": {"1"}, "\u2019a\u2019": {"a"}, "\u00B7a\u00B7": {"a"},
		"'": nil, ".": nil, "''": nil, ".,": nil, "'.": nil,
		// beside what is other
		" 'a' ": {"a"}, " .1. ": {"1"}, "a '": {"a"}, "a 'b": {"a", "b"}, "a' b": {"a", "b"}, "1 .2": {"1", "2"}, "1. 2": {"1", "2"},
		// two side by side
		"a''b": {"a", "b"}, "a'\u2019b": {"a", "b"}, "1..2": {"1", "2"}, "1.,2": {"1", "2"}, "a'.b": {"a", "b"}, "1'.2": {"1", "2"}, "1.'2": {"1", "2"},
		"a'b''c": {"a'b", "c"}, "1.2..3.4": {"1.2", "3.4"},
		// with a mark it is no joint, and a letter or digit stays one
		"a'\u0301b": {"a", "b"}, "1.\u03012": {"1", "2"}, "1,\u03452": {"1", "2"}, "a\u00B7\u0323b": {"a", "b"}, "a\u2019\u1161b": {"a", "b"},
		"a\u0301'b": {"a\u0301'b"}, "a'b\u0301": {"a'b\u0301"}, "1\u0301.2": {"1\u0301.2"}, "1.2\u0301": {"1.2\u0301"}, "_\u0301a": {"_\u0301a"},
		// others that look like joints
		"a\u2018b": {"a", "b"}, "a\"b": {"a", "b"}, "a`b": {"a", "b"}, "a\u0387b": {"a", "b"}, "a\u2027b": {"a", "b"},
		"1;2": {"1", "2"}, "1:2": {"1", "2"}, "1\u20242": {"1", "2"}, "1-2": {"1", "2"}, "1/2": {"1", "2"},
		// letters and digits that aren't those of English
		"\u0416\u0449": {"\u0436\u0449"}, "\u4E2D\u6587": {"\u4E2D\u6587"}, "\u304C": {"\u304B\u3099"}, "\uAC01": {"\u1100\u1161\u11A8"},
		"\u0663.\u0664": {"\u0663.\u0664"}, "\uFF10,\uFF11": {"\uFF10,\uFF11"}, "\u00B2\u00BC": {"\u00B2\u00BC"}, "\u00AA": {"\u00AA"},
		"\u212B'\u2126": {"a\u030A'\u03C9"}, "\u00D7": nil, "\u20AC": nil, "\u0301": nil, "\U0001F600": nil,
		"\u0301a": {"a"}, "\u1161": {"\u1161"}, "\u0345": nil, "a\u034Fb": {"a", "b"}, "\u0481\u0482": {"\u0481"}, "\u0483a": {"a"},
	} {
		got := check(t, in)
		if !slices.Equal(keysOf(got), want) {
			t.Errorf("Words of %+q: %s, but should be %+q", in, shown(got), want)
		}
	}
}

// P13.1, P13.2 and P13.4, all lists of up to five segments of eight kinds.
func TestAllShortLists(t *testing.T) {
	pieces := []string{"a", "E\u0301", "1", "_", "'", ".", "'\u0301", " "}
	eachOf(pieces, 5, func(l []string) { check(t, strings.Join(l, "")) })
}

// P13.1, every code point as the first one of a segment, between two letters and between
// two digits, with a mark behind it too.
func TestEveryCodePoint(t *testing.T) {
	joint := func(r int32, l ...int32) bool { return slices.Contains(l, r) }
	for r := int32(0); r <= api.MaxRune; r++ {
		if !utf.Valid(r) || r > 0x3200 && r%61 != 0 && (r < 0x4DF0 || r > 0x4E10) && (r < 0x9FF0 || r > 0xAC10) && (r < 0xD790 || r > 0xFF30) {
			continue
		}
		text := string(utf.Encode([]int32{r}))
		category := ucd.Category(r)
		in := category == ucd.L || category == ucd.N || r == '_'
		for _, c := range []struct {
			text, beside string
			in           bool
		}{
			{text, "a", in || joint(r, 0x27, 0x2019, 0xB7)},
			{text, "1", in || joint(r, 0x2E, 0x2C)},
			{text, "_", in}, {text, " ", in},
			{text + "\u0301", "a", in}, {text + "\u0301", "1", in},
			{text + "a", "a", in}, {text + "'", "a", in}, {text + "1", "1", in}, {text + "\xFF", "1", in},
		} {
			l := Join(segments(c.beside, c.text, c.beside))
			together := len(l) == 1 && (l[0].Span == api.Span{From: 0, To: 3, Start: 0, End: 3} || l[0].Span == api.Span{From: 1, To: 2, Start: 1, End: 2})
			if c.in != together {
				t.Fatalf("%+q between %q: %s", c.text, c.beside, shown(l))
			}
		}
	}
}

// P13.1, lists of segments that no text has.
func TestJoin(t *testing.T) {
	for _, c := range []struct {
		segs []api.Segment
		want []api.Word
	}{
		{nil, nil},
		{[]api.Segment{}, nil},
		{[]api.Segment{{}}, nil},
		// empty Texts are other
		{segments("a", "", "b"), []api.Word{{Key: "a", Span: api.Span{From: 0, To: 1, Start: 0, End: 1}}, {Key: "b", Span: api.Span{From: 2, To: 3, Start: 2, End: 3}}}},
		{segments("a", "'", "", "b"), []api.Word{{Key: "a", Span: api.Span{From: 0, To: 1, Start: 0, End: 1}}, {Key: "b", Span: api.Span{From: 3, To: 4, Start: 3, End: 4}}}},
		{segments("", "1", "", "", "_", ""), []api.Word{{Key: "1", Span: api.Span{From: 1, To: 2, Start: 1, End: 2}}, {Key: "_", Span: api.Span{From: 4, To: 5, Start: 4, End: 5}}}},
		// Texts of several segments are what they begin with
		{segments("a b", "1!", "_'"), []api.Word{{Key: "a b1!_'", Span: api.Span{From: 0, To: 3, Start: 0, End: 3}}}},
		{segments(" a", "'a", "!1", ".5", "\u0301a", "\xFFa"), nil},
		{segments("ab", "'", "c d"), []api.Word{{Key: "ab'c d", Span: api.Span{From: 0, To: 3, Start: 0, End: 3}}}},
		{segments("a1", ".", "2a"), []api.Word{{Key: "a1", Span: api.Span{From: 0, To: 1, Start: 0, End: 1}}, {Key: "2a", Span: api.Span{From: 2, To: 3, Start: 2, End: 3}}}},
		{segments("1a", ".", "2a"), []api.Word{{Key: "1a.2a", Span: api.Span{From: 0, To: 3, Start: 0, End: 3}}}},
		{segments("a", "''", "b"), []api.Word{{Key: "a", Span: api.Span{From: 0, To: 1, Start: 0, End: 1}}, {Key: "b", Span: api.Span{From: 2, To: 3, Start: 2, End: 3}}}},
		{segments("1", "..", "2"), []api.Word{{Key: "1", Span: api.Span{From: 0, To: 1, Start: 0, End: 1}}, {Key: "2", Span: api.Span{From: 2, To: 3, Start: 2, End: 3}}}},
		// Texts that aren't in normal form
		{segments("\u00C9", "\u2019", "\u212B"), []api.Word{{Key: "e\u0301\u2019a\u030A", Span: api.Span{From: 0, To: 3, Start: 0, End: 3}}}},
		{segments("A\u0301\u0323", "\uAC01", "\u1E0A\u0323"), []api.Word{{Key: "a\u0323\u0301\u1100\u1161\u11A8d\u0323\u0307", Span: api.Span{From: 0, To: 3, Start: 0, End: 3}}}},
		{segments("\u0344", "\u0340a", "\u2260"), nil},
		// Texts that aren't well-formed
		{segments("a\xE2", "b\x82", "1\xFF"), []api.Word{{Key: "a\uFFFDb\uFFFD1\uFFFD", Span: api.Span{From: 0, To: 3, Start: 0, End: 3}}}},
		{segments("\xFF", "\xC3", "\x89", "\xE2\x82", "\xF0\x90\x80", "\xF0\x90\x80a"), nil},
		{segments("a", "'\xFF", "b", "\xC2", "\xB7", "c"), []api.Word{
			{Key: "a", Span: api.Span{From: 0, To: 1, Start: 0, End: 1}},
			{Key: "b", Span: api.Span{From: 2, To: 3, Start: 2, End: 3}},
			{Key: "c", Span: api.Span{From: 5, To: 6, Start: 5, End: 6}},
		}},
		{segments("\uFF10\xF0", "\U0001F600", "\u4E2D\xF0\x9F\x98"), []api.Word{{Key: "\uFF10\uFFFD", Span: api.Span{From: 0, To: 1, Start: 0, End: 1}}, {Key: "\u4E2D\uFFFD", Span: api.Span{From: 2, To: 3, Start: 2, End: 3}}}},
		// At and End may be any
		{[]api.Segment{{Text: "a", At: 9, End: -4}}, []api.Word{{Key: "a", Span: api.Span{From: 0, To: 1, Start: 9, End: -4}}}},
		{[]api.Segment{{Text: "a", At: math.MaxInt, End: 3}, {Text: "'", At: -1, End: -1}, {Text: "b", At: 2, End: math.MinInt}, {Text: "-", At: 5, End: 5}, {Text: "_"}}, []api.Word{
			{Key: "a'b", Span: api.Span{From: 0, To: 3, Start: math.MaxInt, End: math.MinInt}},
			{Key: "_", Span: api.Span{From: 4, To: 5}},
		}},
		{[]api.Segment{{Text: "1", At: -3, End: -2}, {Text: "2", At: -3, End: -2}}, []api.Word{{Key: "12", Span: api.Span{From: 0, To: 2, Start: -3, End: -2}}}},
	} {
		if got := Join(c.segs); !slices.Equal(got, c.want) || !slices.Equal(got, wordsOf(c.segs)) {
			t.Errorf("Join(%s): %s, but should be %s", listed(c.segs), shown(got), shown(c.want))
		}
	}
}

// P13.1, rolled lists of any segments.
func TestRolledLists(t *testing.T) {
	d := dice(3)
	texts := []string{
		"a", "B", "\u00C9", "e\u0301\u0323", "1", "\u0663", "_", "'", "\u2019", "\u00B7", ".", ",", " ", "", "ab", "a'", "1.", "_a", "'a", ".1",
		"\u1161", "\u0345", "\u1E0A", "\u1E0A\u0323", "\xFF", "a\xC3", "\xA9", "\u2260", "\u0301a", "\u1FB3\u0301",
	}
	for range 60000 {
		segs := make([]api.Segment, d.roll(9))
		for i := range segs {
			most := pick(&d, 6, 12, 12, len(texts))
			segs[i] = api.Segment{Text: texts[d.roll(most)], At: d.roll(9) - 3, End: d.roll(9) - 3}
		}
		if got, want := Join(segs), wordsOf(segs); !slices.Equal(got, want) {
			t.Fatalf("Join(%s): %s, but should be %s", listed(segs), shown(got), shown(want))
		}
	}
}

// P13.1 and R5, numbers that are no limits, at texts that are over every limit too.
func TestNoLimits(t *testing.T) {
	for _, limit := range []int{
		0, api.MaxSegment + 1, -1, -api.MaxSegment, 128, 256 + 1, 1<<16 + 1, 1<<32 + 1, 1<<32 + api.MaxSegment,
		math.MinInt, math.MinInt + 1, math.MaxInt, math.MinInt32, math.MaxInt32,
	} {
		for _, in := range []string{"", "a", "\u00E9x", "x " + marked("e", api.MaxSegment+1), "\xFF"} {
			if l, e := Words([]byte(in), limit); len(l) != 0 || e != api.ErrArg {
				t.Errorf("Words(%+q, %d): %v, %v", in, limit, l, e)
			}
		}
	}
}

// P13.1 and R5, segments just as long as each limit and one longer, in words and beside
// them, at the front, in the midst and at the end: beside ErrSegment there is nothing.
func TestEveryLimit(t *testing.T) {
	for limit := 1; limit <= api.MaxSegment; limit++ {
		for _, first := range []string{"e", "1", "_", "'", " ", "\xFF", "\u0301"} {
			fits, over := marked(first, limit), marked(first, limit+1)
			for _, frame := range [][2]string{{"", ""}, {"", "x"}, {"x", ""}, {"x", "x"}, {"x y ", " z 1"}, {"x" + fits, fits}} {
				text := frame[0] + fits + frame[1]
				segs, e := seg.Split([]byte(text), limit)
				l, bad := Words([]byte(text), limit)
				if bad != e || e == api.OK && !slices.Equal(l, wordsOf(segs)) || e != api.OK && len(l) != 0 {
					t.Fatalf("%+q, %d: %s, %v", text, limit, shown(l), bad)
				}
				text = frame[0] + over + frame[1]
				if l, e := Words([]byte(text), limit); len(l) != 0 || e != api.ErrSegment {
					t.Fatalf("%+q, %d: %s, %v", text, limit, shown(l), e)
				}
			}
		}
	}
	for _, c := range []struct {
		in    string
		limit int
	}{
		{"a\u0301", 1}, {"\u00E9", 1}, {"a b \u00E9", 1}, {"\u1E69", 2}, {"\u0344", 1}, {"a \uAC01", 2}, {"x\xFF\u0301", 1}, {"\u1E0A\u0323", 1},
	} {
		if l, e := Words([]byte(c.in), c.limit); len(l) != 0 || e != api.ErrSegment {
			t.Errorf("%+q, %d: %s, %v", c.in, c.limit, shown(l), e)
		}
	}
	// the limit is for the text's segments, not for what they fold to
	if l, e := Words([]byte("\u1E0A \u00DF \u1E68"), 1); e != api.OK || !slices.Equal(keysOf(l), []string{"d\u0307", "ss", "s\u0323\u0307"}) {
		t.Error(shown(l), e)
	}
}
