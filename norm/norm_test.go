package norm

import (
	"math"
	"slices"
	"testing"
	"unicode/utf8"

	"trema/api"
	"trema/ucd"
	"trema/utf"
)

// P3.1, the chapter's examples, and the edges that it names.
func TestNormalTellsTheExamples(t *testing.T) {
	for _, c := range []struct{ in, want []int32 }{
		{nil, nil},
		{[]int32{}, nil},
		{[]int32{0xE9}, []int32{0x65, 0x301}},
		{[]int32{0x61, 0x301, 0x323}, []int32{0x61, 0x323, 0x301}},
		{[]int32{0xAC01}, []int32{0x1100, 0x1161, 0x11A8}},
		{[]int32{0x1E69, 0x301}, []int32{0x73, 0x323, 0x307, 0x301}},
		{[]int32{0x301, 0x323}, []int32{0x323, 0x301}},
		// marks of one class stay as they stood
		{[]int32{0x308, 0x301}, []int32{0x308, 0x301}},
		{[]int32{0x301, 0x308}, []int32{0x301, 0x308}},
		{[]int32{0x61, 0x308, 0x323, 0x301, 0x316}, []int32{0x61, 0x323, 0x316, 0x308, 0x301}},
		// classes from the highest to the lowest
		{[]int32{0x345, 0x315, 0x301, 0x323, 0x31B, 0x327, 0x3099, 0x338}, []int32{0x338, 0x3099, 0x327, 0x31B, 0x323, 0x301, 0x315, 0x345}},
		// marks that a decomposition brings are put in order with those behind
		{[]int32{0xE9, 0x323}, []int32{0x65, 0x323, 0x301}},
		{[]int32{0x1FB3, 0x301, 0x338}, []int32{0x3B1, 0x338, 0x301, 0x345}},
		{[]int32{0x61, 0x344, 0x323}, []int32{0x61, 0x323, 0x308, 0x301}},
		{[]int32{0x344}, []int32{0x308, 0x301}},
		{[]int32{0x340, 0x327}, []int32{0x327, 0x300}},
		// no mark passes a starter, those that trail among them
		{[]int32{0x301, 0x61, 0x323}, []int32{0x301, 0x61, 0x323}},
		{[]int32{0x301, 0x1161, 0x323}, []int32{0x301, 0x1161, 0x323}},
		{[]int32{0x301, 0x34F, 0x323}, []int32{0x301, 0x34F, 0x323}},
		{[]int32{0xAC00, 0x301, 0x11A8, 0x323}, []int32{0x1100, 0x1161, 0x301, 0x11A8, 0x323}},
		{[]int32{0x301, 0xE9, 0x323, 0xE9}, []int32{0x301, 0x65, 0x323, 0x301, 0x65, 0x301}},
		// nothing is put together
		{[]int32{0x65, 0x301}, []int32{0x65, 0x301}},
		{[]int32{0x1100, 0x1161, 0x11A8}, []int32{0x1100, 0x1161, 0x11A8}},
	} {
		same(t, "Normal", c.in, Normal(c.in), c.want)
		if Is(c.in) != slices.Equal(c.in, c.want) {
			t.Errorf("Is(%X): %v", c.in, Is(c.in))
		}
		if !Is(c.want) || !Same(c.in, c.want) || !Same(c.want, c.in) {
			t.Errorf("%X and its normal form", c.in)
		}
	}
}

// P3.1, every number alone, and between marks of which one is of the highest
// class and one of the lowest.
func TestNormalOfEachNumber(t *testing.T) {
	check := func(r int32) {
		full := ucd.Decompose(r)
		if r >= 0x300 && r < 0x3100 || len(full) > 1 {
			l := []int32{0x345, r, 0x338}
			same(t, "Normal", l, Normal(l), formed(l))
		}
		same(t, "Normal", []int32{r}, Normal([]int32{r}), full)
		if Is([]int32{r}) != (len(full) == 1 && full[0] == r) {
			t.Fatalf("Is(%X): %v", r, Is([]int32{r}))
		}
	}
	for r := int32(-0x400); r <= api.MaxRune+0x400; r++ {
		check(r)
	}
	for _, r := range wrong {
		check(r)
	}
}

// P3.1 and P3.2, all short lists of all kinds.
func TestNormalOfShortLists(t *testing.T) {
	eachOf(kinds, 4, func(l []int32) {
		want := formed(l)
		got := Normal(l)
		same(t, "Normal", l, got, want)
		if Is(l) != slices.Equal(l, want) {
			t.Fatalf("Is(%X): %v", l, Is(l))
		}
		same(t, "Normal of Normal", l, Normal(got), got)
		if !Is(got) || !Same(l, got) {
			t.Fatalf("%X and its normal form", l)
		}
	})
}

// P3.1 and P3.2, long lists, and long runs of marks.
func TestNormalOfLongLists(t *testing.T) {
	l := mixed(60000)
	got := Normal(l)
	same(t, "Normal", nil, got, formed(l))
	same(t, "Normal of Normal", nil, Normal(got), got)
	if Is(l) || !Is(got) || !Same(l, got) {
		t.Error("a long list and its normal form")
	}
	for _, n := range []int{11, 12, 13, 20, 21, 40, 41, 100, 1000, 200000} {
		l, want := run(n)
		same(t, "Normal", nil, Normal(l), want)
		same(t, "Normal", nil, Normal(slices.Concat([]int32{0x61}, l, []int32{0x61})), slices.Concat([]int32{0x61}, want, []int32{0x61}))
	}
}

// P3.1, numbers that are no code points stand as they are, and so does what is
// beside them.
func TestNormalOfNoCodePoints(t *testing.T) {
	for _, r := range wrong {
		for _, l := range [][]int32{{r}, {r, r}, {0x301, r, 0x323}, {0x61, r, 0x301}, {r, 0x323, 0x301, r}} {
			same(t, "Normal", l, Normal(l), l)
			if !Is(l) {
				t.Errorf("Is(%X): false", l)
			}
		}
		l := []int32{0xE9, 0x323, r, 0x301, 0x323}
		same(t, "Normal", l, Normal(l), []int32{0x65, 0x323, 0x301, r, 0x323, 0x301})
		if Same([]int32{r}, []int32{0xFFFD}) || !Same([]int32{r, 0xE9}, []int32{r, 0x65, 0x301}) {
			t.Errorf("Same, with %X", r)
		}
	}
}

// P3.1, lists that have one normal form, and lists that don't.
func TestSame(t *testing.T) {
	for _, c := range []struct {
		a, b []int32
		want bool
	}{
		{nil, nil, true},
		{nil, []int32{}, true},
		{[]int32{0x212B}, []int32{0x41, 0x30A}, true},
		{[]int32{0x212B}, []int32{0xC5}, true},
		{[]int32{0x61, 0x301, 0x323}, []int32{0xE1, 0x323}, true},
		{[]int32{0x1E69}, []int32{0x73, 0x307, 0x323}, true},
		{[]int32{0xAC01}, []int32{0xAC00, 0x11A8}, true},
		{[]int32{0x344}, []int32{0x308, 0x341}, true},
		{[]int32{0x301, 0x308}, []int32{0x308, 0x301}, false},
		{[]int32{0x61, 0x301, 0x62, 0x323}, []int32{0x61, 0x323, 0x62, 0x301}, false},
		{nil, []int32{0x61}, false},
		{[]int32{0x61}, nil, false},
		{[]int32{0x61}, []int32{0x61, 0x61}, false},
		{[]int32{0x61, 0x301}, []int32{0x61}, false},
		{[]int32{0x41}, []int32{0x61}, false},
	} {
		if Same(c.a, c.b) != c.want || Same(c.b, c.a) != c.want {
			t.Errorf("Same(%X, %X): %v", c.a, c.b, !c.want)
		}
	}
}

// P3.1, all pairs of short lists.
func TestSameOfShortLists(t *testing.T) {
	var lists [][]int32
	eachOf([]int32{0x61, 0xE1, 0x301, 0x323, 0x344, -1}, 3, func(l []int32) { lists = append(lists, slices.Clone(l)) })
	var want [][]int32
	for _, l := range lists {
		want = append(want, formed(l))
	}
	for i, a := range lists {
		for k, b := range lists {
			if Same(a, b) != slices.Equal(want[i], want[k]) {
				t.Fatalf("Same(%X, %X): %v", a, b, Same(a, b))
			}
		}
	}
}

// P3.1, texts, well-formed and ill-formed ones: an ill-formed piece is one code
// point, however many its bytes are.
func TestTextAndRunes(t *testing.T) {
	for _, c := range []struct {
		in    string
		text  string
		runes []int32
	}{
		{"", "", nil},
		{"\x00", "\x00", []int32{0}},
		{"e\u0301", "e\u0301", []int32{0x65, 0x301}},
		{"\u00E9\xFF", "e\u0301\uFFFD", []int32{0xE9, 0xFFFD}},
		{"\u0061\u0301\u0323x", "a\u0323\u0301x", []int32{0x61, 0x301, 0x323, 0x78}},
		{"\uAC01", "\u1100\u1161\u11A8", []int32{0xAC01}},
		{"\u0301\xE2\x82\u0323", "\u0301\uFFFD\u0323", []int32{0x301, 0xFFFD, 0x323}},
		{"\xF0\x90\x80\x41", "\uFFFDA", []int32{0xFFFD, 0x41}},
		{"\xC0\x80", "\uFFFD\uFFFD", []int32{0xFFFD, 0xFFFD}},
		{"\xED\xA0\x80", "\uFFFD\uFFFD\uFFFD", []int32{0xFFFD, 0xFFFD, 0xFFFD}},
		{"\xF4\x90", "\uFFFD\uFFFD", []int32{0xFFFD, 0xFFFD}},
		{"\u0323\u0301\xCC", "\u0323\u0301\uFFFD", []int32{0x323, 0x301, 0xFFFD}},
		{"\u212B\uFFFD\U0010FFFF", "A\u030A\uFFFD\U0010FFFF", []int32{0x212B, 0xFFFD, 0x10FFFF}},
	} {
		if got := Text([]byte(c.in)); got != c.text {
			t.Errorf("Text(%q): %q, but should be %q", c.in, got, c.text)
		}
		same(t, "Runes", nil, Runes(c.in), c.runes)
	}
	if Text(nil) != "" {
		t.Errorf("Text(nil): %q", Text(nil))
	}
}

// P3.1 and P3.2, texts of all kinds of pieces, against layer 1 and Normal.
func TestTextsOfPieces(t *testing.T) {
	pieces := []string{"a", "\u00E9", "\u0301", "\u0323", "\u0344", "\uAC01", "\u1161", "\uFFFD", "\xFF", "\xE2\x82", "\xF0\x90\x80", "\xCC", "\x81", "\xED\xA0\x80"}
	for i := range len(pieces) * len(pieces) * len(pieces) {
		s := pieces[i%len(pieces)] + pieces[i/len(pieces)%len(pieces)] + pieces[i/len(pieces)/len(pieces)]
		var want []int32
		for _, p := range utf.Decode([]byte(s)) {
			want = append(want, p.Rune)
		}
		same(t, "Runes", nil, Runes(s), want)
		text := Text([]byte(s))
		if text != string(utf.Encode(formed(want))) || !utf8.ValidString(text) {
			t.Fatalf("Text(%q): %q", s, text)
		}
		if Text([]byte(text)) != text {
			t.Fatalf("Text of Text of %q: %q", s, Text([]byte(text)))
		}
		same(t, "Runes of Text", want, Runes(text), Normal(want))
	}
}

// P3.3: a list may be cut ahead of each code point that opens.
func TestCutsAheadOfWhatOpens(t *testing.T) {
	eachOf(kinds, 4, func(l []int32) {
		whole := Normal(l)
		for i, r := range l {
			if ucd.Opens(r) {
				same(t, "both pieces", l, slices.Concat(Normal(l[:i]), Normal(l[i:])), whole)
			}
		}
	})
}

// R3: what is handed in is left as it is, its spare room too.
func TestArgumentsAreLeftAsTheyAre(t *testing.T) {
	in := []int32{0x61, 0x301, 0x323, 0xE9, 0x301, 0x323, 7, 7, 7, 7}
	l := slices.Clone(in)
	for n := range 7 {
		Normal(l[:n])
		Is(l[:n])
		Same(l[:n], l[n:6])
		f := New()
		f.Write(l[:n])
		f.Write(l[n:6])
		f.Close()
		same(t, "what was handed in", in, l, in)
	}
	b := []byte("a\u0301\u0323\xE2\x82????")
	Text(b[:7])
	if string(b) != "a\u0301\u0323\xE2\x82????" {
		t.Errorf("bytes became %q", b)
	}
}

// R3: answers are new memory, their spare room too.
func TestAnswersAreNew(t *testing.T) {
	for _, in := range [][]int32{{0x61}, {0x61, 0x323, 0x301}, {0x61, 0x301, 0x323}, {0x301, 0x323}, {0x323, 0x301}, {0xE9, math.MaxInt32}} {
		l := slices.Clone(in)
		first, second := Normal(l), Normal(l)
		want := slices.Clone(second)
		spoil(first)
		same(t, "what was handed in", in, l, in)
		same(t, "Normal", in, second, want)
		same(t, "Normal", in, Normal(l), want)
	}
	first, second := Runes("ab\xFF"), Runes("ab\xFF")
	spoil(first)
	same(t, "Runes", nil, second, []int32{0x61, 0x62, 0xFFFD})
	same(t, "Runes", nil, Runes("ab\xFF"), []int32{0x61, 0x62, 0xFFFD})
}
