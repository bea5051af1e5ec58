package utf

import (
	"bytes"
	"math"
	"slices"
	"testing"
	"unicode/utf8"

	"trema/api"
)

// P1.1, the chapter's examples, and each row of its table just in and just out
// of its bounds.
func TestDecodeTellsTheExamples(t *testing.T) {
	for _, c := range []struct {
		in   string
		want []api.Point
	}{
		{"", nil},
		{"\x41\xC3\xA9", []api.Point{{Rune: 0x41, At: 0, Width: 1}, {Rune: 0xE9, At: 1, Width: 2}}},
		{"\xE2\x82", []api.Point{{Rune: 0xFFFD, At: 0, Width: 2}}},
		{"\xE2\x41", []api.Point{{Rune: 0xFFFD, At: 0, Width: 1}, {Rune: 0x41, At: 1, Width: 1}}},
		{"\xC0\x80", []api.Point{{Rune: 0xFFFD, At: 0, Width: 1}, {Rune: 0xFFFD, At: 1, Width: 1}}},
		{"\xED\xA0\x80", []api.Point{{Rune: 0xFFFD, At: 0, Width: 1}, {Rune: 0xFFFD, At: 1, Width: 1}, {Rune: 0xFFFD, At: 2, Width: 1}}},
		{"\xF0\x90\x80\x41", []api.Point{{Rune: 0xFFFD, At: 0, Width: 3}, {Rune: 0x41, At: 3, Width: 1}}},
		{"\xF4\x90", []api.Point{{Rune: 0xFFFD, At: 0, Width: 1}, {Rune: 0xFFFD, At: 1, Width: 1}}},
		{"\x00", []api.Point{{Rune: 0, At: 0, Width: 1}}},
		{"\x7F", []api.Point{{Rune: 0x7F, At: 0, Width: 1}}},
		{"\xC2\x80", []api.Point{{Rune: 0x80, At: 0, Width: 2}}},
		{"\xDF\xBF", []api.Point{{Rune: 0x7FF, At: 0, Width: 2}}},
		{"\xE0\xA0\x80", []api.Point{{Rune: 0x800, At: 0, Width: 3}}},
		{"\xED\x9F\xBF", []api.Point{{Rune: 0xD7FF, At: 0, Width: 3}}},
		{"\xEE\x80\x80", []api.Point{{Rune: 0xE000, At: 0, Width: 3}}},
		{"\xEF\xBF\xBD", []api.Point{{Rune: 0xFFFD, At: 0, Width: 3}}},
		{"\xEF\xBF\xBF", []api.Point{{Rune: 0xFFFF, At: 0, Width: 3}}},
		{"\xEF\xBB\xBF\x41", []api.Point{{Rune: 0xFEFF, At: 0, Width: 3}, {Rune: 0x41, At: 3, Width: 1}}},
		{"\xF0\x90\x80\x80", []api.Point{{Rune: 0x10000, At: 0, Width: 4}}},
		{"\xF4\x8F\xBF\xBF", []api.Point{{Rune: 0x10FFFF, At: 0, Width: 4}}},
		{"\xC2\xC2\x80", []api.Point{{Rune: 0xFFFD, At: 0, Width: 1}, {Rune: 0x80, At: 1, Width: 2}}},
		{"\x80", []api.Point{{Rune: 0xFFFD, At: 0, Width: 1}}},
		{"\xF5\x80", []api.Point{{Rune: 0xFFFD, At: 0, Width: 1}, {Rune: 0xFFFD, At: 1, Width: 1}}},
	} {
		same(t, "Decode", []byte(c.in), Decode([]byte(c.in)), c.want)
	}
	if l := Decode(nil); len(l) != 0 {
		t.Errorf("Decode of nil: %v", l)
	}
}

// P1.1, all short lists of bytes against the chapter's table.
func TestDecodeReadsAsTheTableSays(t *testing.T) {
	compare := func(b []byte) {
		want, _ := reading(b)
		same(t, "Decode", b, Decode(b), want)
	}
	var all []byte
	for c := range 256 {
		all = append(all, byte(c))
	}
	eachOf(all, 1, compare)
	eachOf(all, 2, compare)
	eachOf(edges, 3, compare)
	eachOf(edges, 4, compare)
	compare(mixed(100000))
}

// P1.1, numbers just in and just out of the code points.
func TestValid(t *testing.T) {
	for _, r := range []int32{0, 1, 0x7F, 0xFF, 0xD7FF, 0xE000, 0xFFFD, 0xFFFE, 0xFFFF, 0x10000, 0x10FFFE, 0x10FFFF} {
		if !Valid(r) {
			t.Errorf("%X is a code point", r)
		}
	}
	for _, r := range []int32{-1, math.MinInt32, -0xD800, 0xD800, 0xDABC, 0xDBFF, 0xDC00, 0xDFFF, 0x110000, math.MaxInt32} {
		if Valid(r) {
			t.Errorf("%X is no code point", r)
		}
	}
}

// P1.1, every code point and what lies beside them, against the library's.
func TestEncodeEach(t *testing.T) {
	for r := int32(-0x200); r <= 0x110200; r++ {
		want := utf8.AppendRune(nil, r)
		if got := Encode([]int32{r}); !bytes.Equal(got, want) {
			t.Fatalf("Encode(%X): % X, but should be % X", r, got, want)
		}
		if Valid(r) != utf8.ValidRune(r) {
			t.Fatalf("Valid(%X): %v", r, Valid(r))
		}
	}
}

// P1.1, lists, and numbers that are no code points.
func TestEncodeLists(t *testing.T) {
	for _, c := range []struct {
		in   []int32
		want string
	}{
		{nil, ""},
		{[]int32{}, ""},
		{[]int32{0xD800}, "\xEF\xBF\xBD"},
		{[]int32{0xDFFF, 0x41, 0x110000}, "\xEF\xBF\xBD\x41\xEF\xBF\xBD"},
		{[]int32{-1, math.MinInt32, math.MaxInt32}, "\xEF\xBF\xBD\xEF\xBF\xBD\xEF\xBF\xBD"},
		{[]int32{0, 0x7F, 0x80, 0x7FF, 0x800, 0xFFFF, 0x10000, 0x10FFFF},
			"\x00\x7F\xC2\x80\xDF\xBF\xE0\xA0\x80\xEF\xBF\xBF\xF0\x90\x80\x80\xF4\x8F\xBF\xBF"},
	} {
		if got := string(Encode(c.in)); got != c.want {
			t.Errorf("Encode(%X): % X, but should be % X", c.in, got, c.want)
		}
	}
}

// P1.3, one way: code points, all of them one behind the other.
func TestDecodeOfEncode(t *testing.T) {
	var all []int32
	for r := int32(0); r <= api.MaxRune; r++ {
		if Valid(r) {
			all = append(all, r)
		}
	}
	l := Decode(Encode(all))
	if !slices.Equal(runes(l), all) {
		t.Error("Decode of Encode isn't what was encoded")
	}
	adjoining(t, l, len(Encode(all)))
}

// P1.3, the other way, and the places of bytes that are ill-formed too.
func TestEncodeOfDecode(t *testing.T) {
	check := func(b []byte) {
		l := Decode(b)
		adjoining(t, l, len(b))
		back := Encode(runes(l))
		if utf8.Valid(b) && !bytes.Equal(back, b) {
			t.Fatalf("Encode of Decode of % X: % X", b, back)
		}
		if !utf8.Valid(back) {
			t.Fatalf("Encode of Decode of % X is ill-formed: % X", b, back)
		}
	}
	eachOf(edges, 3, check)
	eachOf(edges, 4, check)
	check([]byte("A\u00E9e\u0301\u20AC\uFFFD\U0001F600\x00\U0010FFFF"))
	check(mixed(100000))
}

func adjoining(t *testing.T, l []api.Point, length int) {
	t.Helper()
	at := 0
	for _, p := range l {
		if p.At != at || p.Width < 1 || p.Width > 4 {
			t.Fatalf("%v begins at %d", p, at)
		}
		at += p.Width
	}
	if at != length {
		t.Fatalf("the widths add up to %d, not %d", at, length)
	}
}

// R3: what is handed in is left as it is, its spare room too.
func TestArgumentsAreLeftAsTheyAre(t *testing.T) {
	b := []byte("\xE2\x82\xACx\xE2\x82????")
	Decode(b[:6])
	d := New()
	d.Write(b[:1])
	d.Write(b[1:5])
	d.Write(b[5:6])
	d.Close()
	if string(b) != "\xE2\x82\xACx\xE2\x82????" {
		t.Errorf("bytes became % X", b)
	}
	l := []int32{0x41, 0xD800, -1, 7, 7}
	Encode(l[:3])
	if !slices.Equal(l, []int32{0x41, 0xD800, -1, 7, 7}) {
		t.Errorf("numbers became %X", l)
	}
}

// R3: answers are new memory, their spare room too.
func TestAnswersAreNew(t *testing.T) {
	in := []byte("a\u00E9\xE2")
	first, second := Decode(in), Decode(in)
	want := slices.Clone(second)
	spoil(first)
	same(t, "Decode", in, second, want)
	same(t, "Decode", in, Decode(in), want)

	l := []int32{0x41, 0xE9, 0x20AC}
	one, two := Encode(l), Encode(l)
	one = one[:cap(one)]
	for i := range one {
		one[i] = '?'
	}
	if string(two) != "A\u00E9\u20AC" || string(Encode(l)) != "A\u00E9\u20AC" {
		t.Errorf("Encode shares memory: %q", two)
	}
}

// spoil writes over all that an answer reaches.
func spoil(l []api.Point) {
	l = l[:cap(l)]
	for i := range l {
		l[i] = api.Point{Rune: -7, At: -7, Width: -7}
	}
}
