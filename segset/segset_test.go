package segset

import (
	"slices"
	"strconv"
	"strings"
	"testing"
	"unicode/utf8"

	"trema/api"
	"trema/utf"
)

var (
	all  = pairs(0, top)
	az   = pairs('a', 'z')
	none = api.Set{}
)

// The samples say of themselves what layer 1 reads.
func TestSamples(t *testing.T) {
	for _, x := range samples {
		l := utf.Decode([]byte(x.text))
		if len(l) != x.count || x.count > 0 && l[0].Rune != x.first || utf8.ValidString(x.text) != x.well {
			t.Errorf("%q: %v", x.text, l)
		}
	}
}

// P6.1, the chapter's examples.
func TestExamples(t *testing.T) {
	e := Of("e\u0301")
	want(t, "Of a", Of("a"), set(pairs('a', 'a'), nil))
	want(t, "Of e with an acute", e, set(nil, nil, "e\u0301"))
	want(t, "First", First(az), set(az, az))
	want(t, "Not", Not(e), set(all, all, "e\u0301"))
	want(t, "Minus", Minus(First(az), e), set(az, az, "e\u0301"))
	for _, c := range []struct {
		s    api.Set
		text string
		want bool
	}{
		{First(az), "a", true}, {First(az), "e\u0301", true}, {First(az), "ex", true}, {First(az), "E", false},
		{Not(e), "a", true}, {Not(e), "e\u0302", true}, {Not(e), "e\u0301", false},
		{Minus(First(az), e), "e\u0302", true}, {Minus(First(az), e), "e", true}, {Minus(First(az), e), "e\u0301", false},
		{All(), "", false},
		{set(nil, nil, "\xFF\xFF"), "\xFF\xFF", true}, {set(nil, nil, "\xFF\xFF"), "\uFFFD\uFFFD", false}, {set(nil, nil, "\xFF\xFF"), "\xFF\xFE", false},
	} {
		if Has(c.s, c.text) != c.want {
			t.Errorf("Has(%q, %q): %v", c.s, c.text, !c.want)
		}
	}
}

// P6.1, Has: texts of one code point and of more, in Multi and Odd, in one of
// both, in neither, of sets in any form.
func TestHas(t *testing.T) {
	for _, c := range []struct {
		s    api.Set
		text string
		want bool
	}{
		{set(pairs('e', 'e'), nil), "e", true}, {set(pairs('e', 'e'), nil), "e\u0301", false}, {set(nil, pairs('e', 'e')), "e", false},
		{set(nil, pairs('e', 'e')), "e\u0301", true}, {set(nil, pairs('e', 'e'), "e\u0301"), "e\u0301", false},
		{set(nil, pairs('e', 'e'), "e\u0301"), "e\u0302", true}, {set(nil, pairs('f', 'f'), "e\u0301"), "e\u0301", true},
		{set(nil, pairs('f', 'f'), "e\u0301"), "e\u0302", false}, {set(nil, pairs(0x301, 0x301)), "e\u0301", false},
		// what is twice in Odd is in it, as what is there once
		{set(nil, nil, "ab", "ab"), "ab", true}, {set(nil, all, "ab", "ab"), "ab", false}, {set(nil, nil, "zz", "ab", "b\u0301", "ab"), "ab", true},
		{set(nil, nil, "zz", "zy", "aa"), "aa", true}, {set(nil, nil, "zz", "zy", "aa"), "zz", true}, {set(nil, nil, "zz", "zy", "aa"), "a", false},
		// Odd has no say on texts of one code point, nor on the empty one
		{set(nil, nil, "a"), "a", false}, {set(az, nil, "a"), "a", true}, {set(nil, nil, ""), "", false}, {set(all, all, ""), "", false},
		{set(all, all), "", false}, {none, "", false}, {none, "a", false}, {none, "ab", false},
		{set(nil, nil, "\xFF"), "\xFF", false}, {set(nil, nil, "\xE2\x82"), "\xE2\x82", false},
		// an ill-formed piece is U+FFFD, but as bytes it is itself
		{set(pairs(0xFFFD, 0xFFFD), nil), "\xFF", true}, {set(pairs(0xFFFD, 0xFFFD), nil), "\uFFFD", true}, {set(pairs(0xFFFD, 0xFFFD), nil), "\xF0\x90\x80", true},
		{set(pairs(0xFFFD, 0xFFFD), nil), "\xFF\xFF", false}, {set(nil, pairs(0xFFFD, 0xFFFD)), "\xFF\xFF", true}, {set(nil, pairs(0xFFFD, 0xFFFD)), "\xFF", false},
		{set(nil, pairs(0xFFFD, 0xFFFD), "\xFFx"), "\xFFx", false}, {set(nil, pairs(0xFFFD, 0xFFFD), "\xFFx"), "\uFFFDx", true},
		{set(nil, pairs(0xFFFD, 0xFFFD), "\uFFFDx"), "\xFFx", true}, {set(nil, nil, "\uFFFDx"), "\xFFx", false}, {set(nil, nil, "\uFFFDx"), "\uFFFDx", true},
		{set(pairs(0xFF, 0xFF), pairs(0xFF, 0xFF)), "\xFF", false}, {set(pairs(0xFF, 0xFF), pairs(0xFF, 0xFF)), "\xFFx", false},
		{set(pairs(0xD800, 0xDFFF), pairs(0xD800, 0xDFFF)), "\xED\xA0\x80", false},
		// ranges in any order, that touch, beyond the ends, and that mean nothing
		{set(pairs('x', 'z', 'b', 'c', 'a', 'a'), nil), "a", true}, {set(pairs(low, high), nil), "\U0010FFFF", true}, {set(pairs(-5, 0), nil), "\x00", true},
		{set(pairs('z', 'a'), pairs('z', 'a')), "e", false}, {set(pairs('z', 'a'), pairs('z', 'a')), "ex", false}, {set(nil, pairs(low, high), "ex"), "ex", false},
		{set(nil, pairs('e', 'e', 'e', 'e')), "ex", true}, {set(nil, pairs('z', 'a'), "ex"), "ex", true},
		// both ends
		{set(pairs(0, 0), pairs(top, top)), "\x00", true}, {set(pairs(0, 0), pairs(top, top)), "\x00\x00", false},
		{set(pairs(0, 0), pairs(top, top)), "\U0010FFFF", false}, {set(pairs(0, 0), pairs(top, top)), "\U0010FFFFa", true},
	} {
		if Has(c.s, c.text) != c.want {
			t.Errorf("Has(%q, %q): %v", c.s, c.text, !c.want)
		}
	}
}

// P6.1, Norm, May, Equal and Empty.
func TestOneSet(t *testing.T) {
	for _, c := range []struct {
		in, norm api.Set
		empty    bool
	}{
		{none, none, true},
		{set([]api.Range{}, []api.Range{}, []string{}...), none, true},
		{set(az, nil), set(az, nil), false}, {set(nil, az), set(nil, az), false}, {set(nil, nil, "ab"), set(nil, nil, "ab"), false},
		{set(all, all), set(all, all), false}, {set(pairs(low, high), pairs(low, high)), set(all, all), false},
		{set(pairs(0, 0), nil), set(pairs(0, 0), nil), false}, {set(nil, pairs(top, top)), set(nil, pairs(top, top)), false},
		{set(pairs(5, 9, 1, 3, 4, 4, 8, 7), pairs(-5, 2)), set(pairs(1, 9), pairs(0, 2)), false},
		{set(pairs(-5, 2), pairs(5, 9, 1, 3, 4, 4, 8, 7)), set(pairs(0, 2), pairs(1, 9)), false},
		// Odd in any order, and again and again; what is above all as bytes is last
		{set(nil, nil, "e\u0301", "a\u0301"), set(nil, nil, "a\u0301", "e\u0301"), false},
		{set(nil, nil, "b", "e\u0301", "e\u0301", "a\u0301"), set(nil, nil, "a\u0301", "e\u0301"), false},
		{set(nil, nil, "ab", "ab", "ab", "ab"), set(nil, nil, "ab"), false},
		{set(nil, nil, "ab", "aa", "ab", "aa", "aaa"), set(nil, nil, "aa", "aaa", "ab"), false},
		{set(nil, nil, "\uE000a", "\U00010000a", "za", "\uFFFDa"), set(nil, nil, "za", "\uE000a", "\uFFFDa", "\U00010000a"), false},
		{set(nil, nil, "\x00a", "\x00\x00", "\U0010FFFF\U0010FFFF"), set(nil, nil, "\x00\x00", "\x00a", "\U0010FFFF\U0010FFFF"), false},
		// texts that Odd doesn't take: the empty one, those of one code point, ill-formed ones
		{set(nil, nil, ""), none, true}, {set(nil, nil, "", ""), none, true}, {set(nil, nil, "a", "\u00E9", "\U00010000", "\uFFFD"), none, true},
		{set(nil, nil, "\xFF", "\xE2\x82", "\xFF\xFF", "x\xFF", "\xFFx", "\xC0\x80", "\xED\xA0\x80", "e\u0301\xCC"), none, true},
		{set(nil, nil, "\xF0\x90\x80", "a\xF0\x90\x80", "\xEF\xBF", "a\xEF\xBF"), none, true},
		{set(nil, nil, "\uFFFD\uFFFD", "\xFF\uFFFD", "\uFFFD\xFF", "\xFF\xFF"), set(nil, nil, "\uFFFD\uFFFD"), false},
		{set(az, az, "", "b", "ab", "\xFF\xFF"), set(az, az, "ab"), false},
		// Odd of texts that begin as Multi says, all the same
		{set(nil, az, "e\u0301", "E\u0301"), set(nil, az, "E\u0301", "e\u0301"), false},
		// sets that mean nothing
		{set(pairs(9, 1), pairs(-9, -1)), none, true}, {set(pairs(top+1, high), pairs(high, low), "a"), none, true},
	} {
		want(t, "Norm", Norm(c.in), c.norm)
		if may := alike(c.in, c.norm); May(c.in) != may || normal(c.in) != may || !May(c.norm) {
			t.Errorf("May(%q): %v", c.in, May(c.in))
		}
		if Empty(c.in) != c.empty || Empty(c.norm) != c.empty {
			t.Errorf("Empty(%q): %v", c.in, Empty(c.in))
		}
		if !Equal(c.in, c.norm) || !Equal(c.norm, c.in) || Equal(c.in, none) != c.empty || Equal(none, c.in) != c.empty {
			t.Errorf("Equal of %q and others", c.in)
		}
		want(t, "Not", Not(c.in), Not(c.norm))
	}
}

// P6.1, May: sets that just miss being normal, by one field alone.
func TestMay(t *testing.T) {
	for _, l := range [][]api.Range{pairs(1, 2, 3, 4), pairs(4, 5, 1, 2), pairs(2, 1), pairs(-1, 3), pairs(1, top+1), pairs(1, 2, 1, 2), pairs(3, 9, 4, 5), pairs(low, low)} {
		if May(set(l, az, "ab")) || May(set(az, l, "ab")) || May(set(l, nil)) || May(set(nil, l)) {
			t.Errorf("May with %v", l)
		}
	}
	for _, l := range [][]string{{""}, {"a"}, {"\uFFFD"}, {"\xFF"}, {"\xFF\xFF"}, {"ab", "ab"}, {"ab", "aa"}, {"ab", "aa", "ac"}, {"aa", "ac", "ab"}, {"ab", "b"}, {"aa", "b", "ca"}, {"", "ab"}, {"ab", "b\xFF"}, {"\xED\xA0\x80"}} {
		if May(set(az, az, l...)) || May(set(nil, nil, l...)) {
			t.Errorf("May with %q", l)
		}
	}
	for _, s := range []api.Set{none, All(), set(az, nil), set(nil, az), set(pairs(1, 2, 4, 5), pairs(0, 0, top, top), "aa", "aaa", "ab"), set(nil, all, "\uFFFD\uFFFD"), set([]api.Range{}, []api.Range{}, []string{}...)} {
		if !May(s) {
			t.Errorf("May(%q)", s)
		}
	}
}

// P6.1, Equal: sets that differ by one field alone.
func TestEqual(t *testing.T) {
	sets := []api.Set{
		none, set(az, nil), set(nil, az), set(az, az), set(nil, nil, "ab"), set(az, nil, "ab"), set(nil, az, "ab"), set(az, az, "ab"), set(az, az, "aa", "ab"),
		set(az, az, "ac"), set(az, all, "ab"), set(all, az, "ab"), set(az, pairs('a', 'y'), "ab"), set(pairs('b', 'z'), az, "ab"), set(all, all), set(all, all, "ab"),
		set(pairs('a', 'c', 'e', 'z'), az, "ab"), set(az, az, "ab", "\U0010FFFF\U0010FFFF"),
	}
	for i, a := range sets {
		for j, b := range sets {
			if Equal(a, b) != (i == j) {
				t.Errorf("Equal(%q, %q): %v", a, b, i != j)
			}
		}
	}
	if !Equal(set(pairs('n', 'z', 'a', 'p', 9, 1), pairs('a', 'b', 'c', 'z'), "ab", "\xFF\xFF", "", "x", "ab", "aa"), set(az, az, "aa", "ab")) {
		t.Error("Equal of the same in other forms")
	}
}

// P6.1, Of: every sample, and every code point.
func TestOf(t *testing.T) {
	for _, x := range samples {
		switch got := Of(x.text); {
		case !x.well || x.count == 0:
			want(t, "Of", got, none)
		case x.count == 1:
			want(t, "Of", got, set(pairs(x.first, x.first), nil))
		default:
			want(t, "Of", got, set(nil, nil, x.text))
		}
		for _, y := range samples {
			if got := Has(Of(x.text), y.text); y.well && got != (x.text == y.text && x.count > 0) {
				t.Errorf("Has(Of(%q), %q): %v", x.text, y.text, got)
			}
		}
		if Empty(Of(x.text)) != (!x.well || x.count == 0) || !May(Of(x.text)) {
			t.Errorf("Of(%q): %q", x.text, Of(x.text))
		}
	}
	for r := range int32(top + 1) {
		if 0xD800 <= r && r <= 0xDFFF {
			continue
		}
		if got := Of(string(r)); len(got.Single) != 1 || got.Single[0] != (api.Range{Lo: r, Hi: r}) || len(got.Multi)+len(got.Odd) > 0 || !Has(got, string(r)) {
			t.Fatalf("Of(%#x): %q", r, got)
		}
	}
	long := strings.Repeat("e\u0301", 50000)
	want(t, "Of a long one", Of(long), set(nil, nil, long))
	want(t, "Of a long one, ill-formed in the end", Of(long+"\xCC"), none)
}

// P6.1, First, Ones and All.
func TestFirstOnesAll(t *testing.T) {
	for _, c := range []struct{ in, norm []api.Range }{
		{nil, nil}, {az, az}, {all, all}, {pairs(low, high), all}, {pairs(0, 0), pairs(0, 0)}, {pairs(top, top), pairs(top, top)},
		{pairs(5, 9, 1, 3, 4, 4, 8, 7), pairs(1, 9)}, {pairs(-5, 2), pairs(0, 2)}, {pairs(9, 1), nil}, {pairs(-9, -1, top+1, high), nil},
		{pairs(0xFFFD, 0xFFFD), pairs(0xFFFD, 0xFFFD)}, {pairs('e', 'e', 'a', 'a'), pairs('a', 'a', 'e', 'e')},
	} {
		want(t, "First", First(c.in), set(c.norm, c.norm))
		want(t, "Ones", Ones(c.in), set(c.norm, nil))
		for _, x := range samples {
			if got := Has(First(c.in), x.text); got != (x.count > 0 && held(c.in, x.first)) {
				t.Errorf("Has(First(%v), %q): %v", c.in, x.text, got)
			}
			if got := Has(Ones(c.in), x.text); got != (x.count == 1 && held(c.in, x.first)) {
				t.Errorf("Has(Ones(%v), %q): %v", c.in, x.text, got)
			}
		}
		if Empty(First(c.in)) != (len(c.norm) == 0) || Empty(Ones(c.in)) != (len(c.norm) == 0) {
			t.Errorf("Empty of First and Ones of %v", c.in)
		}
	}
	want(t, "All", All(), set(all, all))
	for _, x := range samples {
		if Has(All(), x.text) != (x.text != "") {
			t.Errorf("Has(All(), %q): %v", x.text, x.text == "")
		}
	}
	want(t, "Not of All", Not(All()), none)
	want(t, "Not of nothing", Not(none), set(all, all))
	if Empty(All()) || !Empty(Not(All())) || !Equal(Not(none), All()) {
		t.Error("All and nothing")
	}
}

// P6.1, Union, Meet and Minus: a text that is odd in both, in one, in none, where
// its first code point is in Multi of both, of one, of none.
func TestTwoSets(t *testing.T) {
	e, f := pairs('e', 'e'), pairs('f', 'f')
	ef, rest := pairs('e', 'f'), pairs(0, 'd', 'f', top)
	for _, c := range []struct{ a, b, union, meet, minus, other api.Set }{
		{none, none, none, none, none, none},
		{All(), none, All(), none, All(), none},
		{All(), All(), All(), All(), none, none},
		// Single is by itself
		{set(pairs(0, 9), nil), set(pairs(3, 4), nil), set(pairs(0, 9), nil), set(pairs(3, 4), nil), set(pairs(0, 2, 5, 9), nil), none},
		{set(pairs(0, 5), nil), set(nil, pairs(3, 9)), set(pairs(0, 5), pairs(3, 9)), none, set(pairs(0, 5), nil), set(nil, pairs(3, 9))},
		{set(e, nil), set(nil, nil, "e\u0301"), set(e, nil, "e\u0301"), none, set(e, nil), set(nil, nil, "e\u0301")},
		// odd in one, Multi of none, of the same, of the other, of both
		{set(nil, nil, "ex"), none, set(nil, nil, "ex"), none, set(nil, nil, "ex"), none},
		{set(nil, e, "ex"), none, set(nil, e, "ex"), none, set(nil, e, "ex"), none},
		{set(nil, nil, "ex"), set(nil, e), set(nil, e), set(nil, nil, "ex"), none, set(nil, e, "ex")},
		{set(nil, e, "ex"), set(nil, e), set(nil, e), set(nil, e, "ex"), none, set(nil, nil, "ex")},
		// odd in both, Multi of none, of one, of both
		{set(nil, nil, "ex"), set(nil, nil, "ex"), set(nil, nil, "ex"), set(nil, nil, "ex"), none, none},
		{set(nil, e, "ex"), set(nil, nil, "ex"), set(nil, e), none, set(nil, e, "ex"), set(nil, nil, "ex")},
		{set(nil, e, "ex"), set(nil, e, "ex"), set(nil, e, "ex"), set(nil, e, "ex"), none, none},
		// unlike texts, odd in one each
		{set(nil, nil, "ex"), set(nil, nil, "ey"), set(nil, nil, "ex", "ey"), none, set(nil, nil, "ex"), set(nil, nil, "ey")},
		{set(nil, e, "ex"), set(nil, e, "ey"), set(nil, e), set(nil, e, "ex", "ey"), set(nil, nil, "ey"), set(nil, nil, "ex")},
		{set(nil, e, "ex"), set(nil, nil, "ey"), set(nil, e, "ex"), set(nil, nil, "ey"), set(nil, e, "ex", "ey"), none},
		{set(nil, e, "ex"), set(nil, f, "fx"), set(nil, ef, "ex", "fx"), none, set(nil, e, "ex"), set(nil, f, "fx")},
		{set(nil, e, "ex", "fx"), set(nil, f, "ex", "fx"), set(nil, ef), none, set(nil, e, "ex", "fx"), set(nil, f, "ex", "fx")},
		{set(nil, e, "fx"), set(nil, f, "ex"), set(nil, ef), set(nil, nil, "ex", "fx"), set(nil, e, "ex"), set(nil, f, "fx")},
		{Of("e\u0301"), Not(Of("e\u0301")), All(), none, Of("e\u0301"), Not(Of("e\u0301"))},
		{First(az), Of("e\u0301"), First(az), Of("e\u0301"), set(az, az, "e\u0301"), none},
		{First(e), All(), All(), First(e), none, set(rest, rest)},
		// both ends
		{Of("\x00\x00"), Of("\U0010FFFF\U0010FFFF"), set(nil, nil, "\x00\x00", "\U0010FFFF\U0010FFFF"), none, Of("\x00\x00"), Of("\U0010FFFF\U0010FFFF")},
		{Of("\x00"), Of("\U0010FFFF"), set(pairs(0, 0, top, top), nil), none, Of("\x00"), Of("\U0010FFFF")},
		{set(nil, pairs(0, 0), "\x00a"), set(nil, pairs(top, top), "\U0010FFFFa"), set(nil, pairs(0, 0, top, top), "\x00a", "\U0010FFFFa"), none, set(nil, pairs(0, 0), "\x00a"), set(nil, pairs(top, top), "\U0010FFFFa")},
		// what isn't normal: Norm of it counts
		{set(pairs(low, high), nil, "x", "", "ex", "ex"), set(pairs(9, 1), e, "\xFF\xFF", "ey"), set(all, e, "ey"), set(nil, nil, "ex"), set(all, nil), set(nil, e, "ex", "ey")},
		{set(nil, nil, "\xFF\xFF"), All(), All(), none, none, All()},
		{set(nil, nil, "\xFF\xFF"), set(nil, nil, "\xFF\xFF"), none, none, none, none},
		{set(nil, pairs(0xFFFD, 0xFFFD), "\xFF\xFF", "\uFFFD\uFFFD"), set(nil, nil, "\uFFFD\uFFFD"), set(nil, pairs(0xFFFD, 0xFFFD)), none, set(nil, pairs(0xFFFD, 0xFFFD), "\uFFFD\uFFFD"), set(nil, nil, "\uFFFD\uFFFD")},
	} {
		want(t, "Union", Union(c.a, c.b), c.union)
		want(t, "Union the other way", Union(c.b, c.a), c.union)
		want(t, "Meet", Meet(c.a, c.b), c.meet)
		want(t, "Meet the other way", Meet(c.b, c.a), c.meet)
		want(t, "Minus", Minus(c.a, c.b), c.minus)
		want(t, "Minus the other way", Minus(c.b, c.a), c.other)
	}
}

// DOC.md counts surrogates as no code points, so that no text has one; to a list
// they are numbers like any others. Both words hold.
func TestSurrogates(t *testing.T) {
	between, around := pairs(0xD800, 0xDFFF), pairs(0xD7FF, 0xE000)
	for _, s := range []api.Set{set(between, nil), set(nil, between), set(between, between), set(pairs(0xD800, 0xD800), pairs(0xDFFF, 0xDFFF)), set(pairs(0xD900, 0xDA00, 0xDC00, 0xDC00), nil, "a", "\xFF\xFF", "\xED\xA0\x80")} {
		if !Empty(s) || Empty(Not(s)) || Equal(s, none) {
			t.Errorf("a set of surrogates: Empty(%q) %v, of Not %v", s, Empty(s), Empty(Not(s)))
		}
		for _, x := range samples {
			if x.well && (Has(s, x.text) || Has(Not(s), x.text) != (x.text != "")) {
				t.Errorf("a set of surrogates and %q", x.text)
			}
		}
		want(t, "Not of Not", Not(Not(s)), Norm(s))
	}
	for _, s := range []api.Set{set(pairs(0xD7FF, 0xDFFF), nil), set(nil, pairs(0xD800, 0xE000)), set(around, nil), set(nil, around), set(between, between, "ab"), set(pairs(0xD800, 0xD800, 0xE000, 0xE000), nil)} {
		if Empty(s) {
			t.Errorf("Empty(%q)", s)
		}
	}
	want(t, "Norm", Norm(set(between, between)), set(between, between))
	want(t, "First", First(around), set(around, around))
	if Equal(set(all, all), set(pairs(0, 0xD7FF, 0xE000, top), all)) || !May(set(between, between)) {
		t.Error("Equal goes field by field, and May by the words of layer 5")
	}
}

// small are sets of every kind: Multi and Odd from nothing to much, with and
// without Single; normal ones.
func small() []api.Set {
	texts := []string{"ab", "a\u0301", "ex", "e\u0301", "\uFFFDx"}
	multis := [][]api.Range{nil, all, pairs('a', 'a'), pairs('e', 'e'), az, pairs(0, 'd', 'f', 0xFFFC), pairs(0xFFFD, top), pairs(0, 0, 'e', 'e', top, top)}
	singles := [][]api.Range{nil, az, all, pairs(0, 0, 'e', 'e', top, top), pairs('b', 0xFFFD)}
	var l []api.Set
	for i, multi := range multis {
		for bits := range 1 << len(texts) {
			s := api.Set{Single: singles[(i+bits)%len(singles)], Multi: multi}
			for k, text := range texts {
				if bits>>k&1 == 1 {
					s.Odd = append(s.Odd, text)
				}
			}
			l = append(l, s)
		}
	}
	return l
}

// P6.2 and P6.3: a fifth of all pairs of small sets, member by member.
func TestPairs(t *testing.T) {
	sets := small()
	for _, a := range sets {
		want(t, "Norm", Norm(a), a)
		members(t, "Not", Not(a), a, none, func(inA, _ bool) bool { return !inA })
		if !May(a) || May(a) != normal(a) {
			t.Fatalf("May(%q)", a)
		}
	}
	for i, a := range sets {
		for k := i % 5; k < len(sets); k += 5 {
			b := sets[k]
			members(t, "Union", Union(a, b), a, b, func(inA, inB bool) bool { return inA || inB })
			members(t, "Meet", Meet(a, b), a, b, func(inA, inB bool) bool { return inA && inB })
			members(t, "Minus", Minus(a, b), a, b, func(inA, inB bool) bool { return inA && !inB })
			algebra(t, a, b)
		}
	}
}

// algebra holds the laws of two sets, of P6.3.
func algebra(t *testing.T, a, b api.Set) {
	t.Helper()
	union, meet, minus := Union(a, b), Meet(a, b), Minus(a, b)
	for i, law := range [][2]api.Set{
		{Not(Not(a)), Norm(a)}, {Union(a, a), Norm(a)}, {Meet(a, a), Norm(a)}, {Minus(a, a), none},
		{Union(a, none), Norm(a)}, {Meet(a, none), none}, {Minus(a, none), Norm(a)}, {Minus(none, a), none},
		{Union(a, All()), All()}, {Meet(a, All()), Norm(a)}, {Minus(All(), a), Not(a)}, {Minus(a, All()), none},
		{Union(a, Not(a)), All()}, {Meet(a, Not(a)), none},
		{union, Union(b, a)}, {meet, Meet(b, a)}, {Not(union), Meet(Not(a), Not(b))}, {Not(meet), Union(Not(a), Not(b))},
		{minus, Meet(a, Not(b))}, {Union(minus, meet), Norm(a)}, {Meet(minus, meet), none}, {Union(minus, b), union},
		{Meet(a, union), Norm(a)}, {Union(a, meet), Norm(a)}, {Minus(union, meet), Union(minus, Minus(b, a))},
	} {
		if !Equal(law[0], law[1]) || !alike(law[0], law[1]) {
			t.Fatalf("law %d of %q and %q: %q and %q", i, a, b, law[0], law[1])
		}
	}
	if Equal(a, b) != (Empty(minus) && Empty(Minus(b, a))) || Equal(a, b) != alike(Norm(a), Norm(b)) {
		t.Fatalf("Equal(%q, %q): %v", a, b, Equal(a, b))
	}
}

// P6.3, laws of three sets.
func TestThreeSets(t *testing.T) {
	sets := small()
	for i, a := range sets {
		b, c := sets[(i*7+3)%len(sets)], sets[(i*31+11)%len(sets)]
		for _, law := range [][2]api.Set{
			{Union(a, Union(b, c)), Union(Union(a, b), c)}, {Meet(a, Meet(b, c)), Meet(Meet(a, b), c)},
			{Meet(a, Union(b, c)), Union(Meet(a, b), Meet(a, c))}, {Union(a, Meet(b, c)), Meet(Union(a, b), Union(a, c))},
			{Minus(a, Union(b, c)), Minus(Minus(a, b), c)}, {Minus(a, Meet(b, c)), Union(Minus(a, b), Minus(a, c))},
		} {
			if !Equal(law[0], law[1]) {
				t.Fatalf("%q, %q and %q: %q and %q", a, b, c, law[0], law[1])
			}
		}
	}
}

// P6.1 and P6.2: sets that are not normal, of every two and three texts of the
// samples, in any order, twice, ill-formed.
func TestWrongSets(t *testing.T) {
	ranges := [][]api.Range{nil, pairs(low, high), pairs('z', 'a', 'e', 'e', 'a', 'b', 'b', 'c'), pairs(0xFFFD, high, low, 0), pairs('a', 'e', 'c', 0xFFFE, 5, 4)}
	for i, x := range samples {
		for k, y := range samples {
			multi := ranges[(i+k)%len(ranges)]
			s := api.Set{Single: ranges[(i+2*k)%len(ranges)], Multi: multi, Odd: []string{x.text, y.text, x.text}}
			was := copyOf(s)
			n := Norm(s)
			for _, z := range samples {
				if Has(s, z.text) != in(s, z) || Has(n, z.text) != in(n, z) {
					t.Fatalf("Has(%q, %q): %v, of Norm %v", s, z.text, Has(s, z.text), Has(n, z.text))
				}
				if z.well && in(s, z) != in(n, z) {
					t.Fatalf("Norm(%q): %q, and %q in it %v", s, n, z.text, in(n, z))
				}
				if z.well && z.count > 1 && odd(n, z.text) != odd(s, z.text) || odd(n, z.text) && (!z.well || z.count < 2) {
					t.Fatalf("Norm(%q): %q, and %q in Odd", s, n, z.text)
				}
			}
			members(t, "Norm", n, n, none, func(inN, _ bool) bool { return inN })
			members(t, "Union", Union(s, Of(y.text)), n, Norm(Of(y.text)), func(inA, inB bool) bool { return inA || inB })
			if May(s) != normal(s) || !Equal(s, n) || Empty(s) != Empty(n) {
				t.Fatalf("%q: May %v, Equal to Norm %v, Empty %v", s, May(s), Equal(s, n), Empty(s))
			}
			want(t, "Meet", Meet(s, n), n)
			want(t, "Minus", Minus(All(), s), Not(n))
			want(t, "what was handed in", s, was)
		}
	}
}

// P6.1 to P6.3: sets of many texts and ranges, whose answers are known.
func TestLongLists(t *testing.T) {
	const n = 20000
	var a, b, union, meet, minus api.Set
	for i := range n {
		text := "m" + strconv.Itoa(i)
		first := string(rune(0x4E00 + i%2000))
		r := api.Range{Lo: int32(3*i + 1), Hi: int32(3*i + 1)}
		a.Odd = append(a.Odd, text, text, "m", "\xFF\xFF", first+"a")
		if i%2 == 0 {
			b.Odd = append(b.Odd, text)
			meet.Odd = append(meet.Odd, text)
		} else {
			minus.Odd = append(minus.Odd, text)
		}
		union.Odd = append(union.Odd, text, first+"a")
		minus.Odd = append(minus.Odd, first+"a")
		a.Single, union.Single, minus.Single = append(a.Single, r, r), append(union.Single, r), append(minus.Single, r)
	}
	for _, l := range []*[]string{&union.Odd, &meet.Odd, &minus.Odd} {
		slices.Sort(*l)
		*l = slices.Compact(*l)
	}
	slices.Reverse(a.Odd)
	slices.Reverse(a.Single)
	want(t, "Norm", Norm(a), union)
	want(t, "Union", Union(a, b), union)
	want(t, "Meet", Meet(a, b), meet)
	want(t, "Minus", Minus(a, b), minus)
	algebra(t, a, b)
	if !Has(a, "m777") || !Has(meet, "m778") || Has(meet, "m777") || Empty(a) || May(a) || !May(union) {
		t.Error("sets of many texts")
	}
}

// P6.2: many ranges in Multi, and a text for each of them.
func TestManyRanges(t *testing.T) {
	const n = 60000
	var a, b, meet api.Set
	for i := range int32(n) {
		r := 0x10000 + 2*i
		text := string(rune(r)) + "\u0301"
		a.Multi = append(a.Multi, api.Range{Lo: r, Hi: r})
		a.Odd = append(a.Odd, text)
		b.Multi = append(b.Multi, api.Range{Lo: r + 1, Hi: r + 1})
		b.Odd = append(b.Odd, text)
	}
	want(t, "Meet", Meet(a, b), meet)
	want(t, "Union", Union(a, b), set(nil, pairs(0x10000, 0x10000+2*n-1)))
	want(t, "Minus", Minus(a, b), a)
	want(t, "Minus the other way", Minus(b, a), b)
	want(t, "Not of Not", Not(Not(b)), b)
}

// P6.1: texts of many code points.
func TestLongTexts(t *testing.T) {
	long := strings.Repeat("a\u0301", 100000)
	s := set(nil, nil, long, long+"a", long, long+"\xCC")
	want(t, "Norm", Norm(s), set(nil, nil, long, long+"a"))
	for i := range 20000 {
		if !Has(s, long) || Has(s, long[:len(long)-1-i%100]) {
			t.Fatal("Has of a long text")
		}
	}
	if !Has(s, long+"\xCC") || Has(Norm(s), long+"\xCC") || !Has(Not(s), long+"\xCC") {
		t.Error("Has of a long text that is ill-formed")
	}
	want(t, "Meet", Meet(First(az), s), set(nil, nil, long, long+"a"))
	want(t, "Minus", Minus(First(az), s), set(az, az, long, long+"a"))
}

// calls are all that answer a set, on two sets that were handed in.
var calls = []func(a, b api.Set) api.Set{
	func(a, _ api.Set) api.Set { return Norm(a) }, func(a, _ api.Set) api.Set { return Not(a) },
	Union, Meet, Minus, func(a, b api.Set) api.Set { return Minus(b, a) }, func(a, b api.Set) api.Set { return Union(b, a) },
	func(a, _ api.Set) api.Set { return Union(a, a) }, func(a, _ api.Set) api.Set { return Meet(a, a) },
	func(a, b api.Set) api.Set { return Meet(b, a) }, func(a, _ api.Set) api.Set { return Minus(a, a) },
	func(a, _ api.Set) api.Set { return First(a.Multi) }, func(a, _ api.Set) api.Set { return Ones(a.Multi) },
	func(a, _ api.Set) api.Set { return First(a.Single) }, func(a, _ api.Set) api.Set { return Ones(a.Single) },
	func(a, _ api.Set) api.Set { return All() }, func(a, _ api.Set) api.Set { return Of("a") }, func(a, _ api.Set) api.Set { return Of("ab") },
	func(a, _ api.Set) api.Set { return Of(slices.Max(append([]string{"a"}, a.Odd...))) },
}

// R3: what is handed in is left as it is, its spare room too.
func TestArgumentsAreLeftAsTheyAre(t *testing.T) {
	ranges := pairs(5, 9, 1, 3, 4, 4, 8, 7, -5, 2, 3, 3, 'a', high, 70, 71, 'e', 'e', 70, 70)
	texts := []string{"e\u0301", "b", "e\u0301", "\xFF\xFF", "", "ab", "aa", "ab", "zz", "\uFFFDx", "\xFF"}
	l, m, o := slices.Clone(ranges), slices.Clone(ranges), slices.Clone(texts)
	for n := range len(l) {
		a, b := set(l[:n], m[:n], o[:n]...), set(m[n:], l[n:], o[n:]...)
		for _, f := range calls {
			f(a, b)
			f(b, a)
		}
		May(a)
		Empty(a)
		Equal(a, b)
		Equal(b, a)
		Has(a, "ab")
		want(t, "what was handed in", set(l, m, o...), set(ranges, ranges, texts...))
	}
}

// R3: answers are new memory, their spare room too, where the answer is what was
// handed in as well; and no two lists of an answer share any.
func TestAnswersAreNew(t *testing.T) {
	for _, c := range []struct{ a, b api.Set }{
		{none, none}, {All(), none}, {set(az, az, "aa", "ab"), none}, {none, set(az, az, "aa", "ab")}, {set(az, az, "ab"), set(all, all, "ab")},
		{set(pairs(1, 2, 4, 5), all, "aa", "ab", "ac"), set(pairs(1, 2, 4, 5), nil, "aa", "ab", "ac")}, {set(nil, nil, "ab"), set(nil, pairs('a', 'a'), "ab")},
		{set(pairs(9, 1, 5, 6), pairs('c', 'd', 'a', 'b'), "zz", "aa", "x", "aa"), set(az, pairs('d', 'e', 'a', 'a'), "zz", "", "da")},
	} {
		a, b := copyOf(c.a), copyOf(c.b)
		for _, f := range calls {
			first, second := f(a, b), f(a, b)
			was := copyOf(second)
			wrong := api.Range{Lo: -7, Hi: 70}
			spoil(first.Single, wrong)
			spoil(first.Odd, "spoilt")
			if !slices.Equal(first.Multi, was.Multi) {
				t.Fatalf("two lists of an answer share memory: %v, but should be %v", first.Multi, was.Multi)
			}
			spoil(first.Multi, wrong)
			if n := len(first.Single); n > 0 && first.Single[n-1] != wrong {
				t.Fatal("two lists of an answer share memory")
			}
			want(t, "the answer ahead", second, was)
			want(t, "what was handed in", a, c.a)
			want(t, "what was handed in", b, c.b)
			clear(a.Single)
			clear(a.Multi)
			clear(a.Odd)
			clear(b.Single)
			clear(b.Multi)
			clear(b.Odd)
			want(t, "the answer ahead", second, was)
			a, b = copyOf(c.a), copyOf(c.b)
			want(t, "the same call", f(a, b), was)
		}
	}
}

// R4: a list that is nil means what an empty one does.
func TestNilLists(t *testing.T) {
	empty := api.Set{Single: []api.Range{}, Multi: []api.Range{}, Odd: []string{}}
	for _, s := range []api.Set{none, All(), set(az, pairs('e', 'e'), "ab", "ex")} {
		for i, f := range calls {
			if !alike(f(s, none), f(s, empty)) || !alike(f(none, s), f(empty, s)) {
				t.Errorf("call %d of %q", i, s)
			}
		}
		if Equal(s, none) != Equal(s, empty) || Equal(none, s) != Equal(empty, s) {
			t.Errorf("Equal of %q", s)
		}
	}
	if !May(empty) || !Empty(empty) || Has(empty, "a") || Has(empty, "ab") || Has(empty, "") || !Equal(none, empty) {
		t.Error("the empty set of empty lists")
	}
}
