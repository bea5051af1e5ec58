package stream

import (
	"math"
	"slices"
	"strings"
	"testing"

	"trema/api"
)

// rooms are those with which tables are gone through.
var rooms = []int{0, 2, 3, 7, api.MaxCache}

// call is a Write, or with the chunk "." Close, and what it should tell.
type call struct {
	chunk        string
	told         string
	held, points int
	e            api.Errno
}

const closes = "."

// script makes calls with each of the rooms, by hand and by the model.
func script(t *testing.T, pattern string, segment, window int, calls ...call) {
	t.Helper()
	for _, room := range rooms {
		w := watch(t, pattern, Config{segment, window, room})
		for i, x := range calls {
			said := len(w.told)
			var e api.Errno
			if x.chunk == closes {
				e = w.close()
			} else {
				e = w.write([]byte(x.chunk))
			}
			if l := w.told[said:]; !slices.Equal(l, spans(t, x.told)) || e != x.e || w.s.Held() != x.held || w.s.Points() != x.points {
				t.Errorf("%q %v: call %d, %+q: %s, %v, Held %d, Points %d, but should be %s, %v, %d, %d", pattern, w.c, i, x.chunk, shown(l), e, w.s.Held(), w.s.Points(), x.told, x.e, x.held, x.points)
			}
		}
	}
}

// P12.1, the chapter's first example, on to its end.
func TestExample(t *testing.T) {
	script(t, "a+", 8, 4, call{chunk: "xaa", held: 1, points: 2}, call{chunk: "b", held: 2, points: 3}, call{chunk: "c", told: "1-3:1-3", points: 1}, call{chunk: closes}, call{chunk: "a", e: api.ErrClosed})
}

// P12.1: spans are told as soon as they are sure, and no sooner; what is held meanwhile.
func TestSoon(t *testing.T) {
	const closed = api.ErrClosed
	for _, c := range []struct {
		pattern string
		calls   []call
	}{
		// What New has decided is told by the first call, whichever it is.
		{"", []call{{"", "0-0:0-0", 0, 0, 0}, {"", "", 0, 0, 0}, {"a", "", 0, 1, 0}, {"\xC3", "", 0, 1, 0}, {"\xA9", "1-1:1-1", 0, 2, 0}, {"b", "2-2:3-3", 0, 1, 0}, {closes, "3-3:4-4", 0, 0, 0}, {closes, "", 0, 0, closed}}},
		{"", []call{{closes, "0-0:0-0", 0, 0, 0}, {"", "", 0, 0, closed}, {closes, "", 0, 0, closed}}},
		{"", []call{{"ab", "0-0:0-0 1-1:1-1", 0, 1, 0}, {closes, "2-2:2-2", 0, 0, 0}}},
		{"^", []call{{"ab", "0-0:0-0", 0, 1, 0}, {"c", "", 0, 1, 0}, {closes, "", 0, 0, 0}}},
		{"b|", []call{{"", "", 0, 0, 0}, {"ab", "0-0:0-0", 0, 1, 0}, {"b", "1-2:1-2", 0, 1, 0}, {"\xFF", "2-3:2-3", 0, 1, 0}, {closes, "3-3:3-3 4-4:4-4", 0, 0, 0}}},
		// The end is known at Close alone.
		{"$", []call{{"", "", 0, 0, 0}, {"ab", "", 0, 1, 0}, {closes, "2-2:2-2", 0, 0, 0}}},
		{"$", []call{{closes, "0-0:0-0", 0, 0, 0}}},
		{"^$", []call{{"", "", 0, 0, 0}, {closes, "0-0:0-0", 0, 0, 0}}},
		{"^$", []call{{"a", "", 0, 1, 0}, {"b", "", 0, 1, 0}, {closes, "", 0, 0, 0}}},
		{"a$", []call{{"aa", "", 1, 2, 0}, {"b", "", 1, 2, 0}, {"a", "", 0, 1, 0}, {closes, "3-4:3-4", 0, 0, 0}}},
		{"a*$", []call{{"aa", "", 1, 2, 0}, {"b", "", 2, 3, 0}, {"b", "", 0, 1, 0}, {"a", "", 0, 1, 0}, {closes, "4-5:4-5 5-5:5-5", 0, 0, 0}}},
		{"ab$|a", []call{{"ab", "", 1, 2, 0}, {"c", "", 2, 3, 0}, {"d", "0-1:0-1", 0, 1, 0}, {closes, "", 0, 0, 0}}},
		{"ab$|a", []call{{"ab", "", 1, 2, 0}, {closes, "0-2:0-2", 0, 0, 0}}},
		// A match is told when it can't become longer, and a place left when there can be none.
		{"a", []call{{"a", "", 0, 1, 0}, {"a", "0-1:0-1", 0, 1, 0}, {"\u0301", "", 0, 2, 0}, {"a", "", 0, 1, 0}, {closes, "2-3:4-5", 0, 0, 0}}},
		{"a|abc", []call{{"ab", "", 1, 2, 0}, {"c", "", 2, 3, 0}, {"d", "0-3:0-3", 0, 1, 0}, {closes, "", 0, 0, 0}}},
		{"a|abc", []call{{"ab", "", 1, 2, 0}, {"d", "", 2, 3, 0}, {"d", "0-1:0-1", 0, 1, 0}, {closes, "", 0, 0, 0}}},
		{"a|abc", []call{{"ab", "", 1, 2, 0}, {"a", "", 2, 3, 0}, {"b", "0-1:0-1", 1, 2, 0}, {closes, "2-3:2-3", 0, 0, 0}}},
		{"abc", []call{{"aab", "", 1, 2, 0}, {"c", "", 2, 3, 0}, {closes, "1-4:1-4", 0, 0, 0}}},
		{"abc|b", []call{{"abab", "1-2:1-2", 1, 2, 0}, {closes, "3-4:3-4", 0, 0, 0}}},
		{"a*", []call{{"b", "", 0, 1, 0}, {"a", "0-0:0-0", 0, 1, 0}, {"a", "", 1, 2, 0}, {"b", "", 2, 3, 0}, {"b", "1-3:1-3 3-3:3-3", 0, 1, 0}, {closes, "4-4:4-4 5-5:5-5", 0, 0, 0}}},
		{"a{2}", []call{{"aaa", "0-2:0-2", 0, 1, 0}, {"ab", "2-4:2-4", 0, 1, 0}, {closes, "", 0, 0, 0}}},
		{"^a|b", []call{{"aa", "0-1:0-1", 0, 1, 0}, {"b", "", 0, 1, 0}, {closes, "2-3:2-3", 0, 0, 0}}},
		{"(ab)*", []call{{"abab", "", 3, 4, 0}, {"c", "", 4, 5, 0}, {"c", "0-4:0-4 4-4:4-4", 0, 1, 0}, {"c", "5-5:5-5", 0, 1, 0}, {closes, "6-6:6-6 7-7:7-7", 0, 0, 0}}},
		// Code points and segments in pieces; bytes are the raw text's.
		{"\u00E9+", []call{{"\xC3", "", 0, 0, 0}, {"\xA9e", "", 1, 3, 0}, {"\xCC", "", 1, 3, 0}, {"\x81", "", 1, 4, 0}, {"e", "", 2, 5, 0}, {"\xC3\xA9", "0-2:0-5", 0, 2, 0}, {closes, "3-4:6-8", 0, 0, 0}}},
		{"\uFFFD", []call{{"\xE2", "", 0, 0, 0}, {"\x82", "", 0, 0, 0}, {"a", "0-1:0-2", 0, 1, 0}, {"\xFF\xF0\x90", "", 0, 1, 0}, {closes, "2-3:3-4 3-4:4-6", 0, 0, 0}}},
		{"\uFFFD+", []call{{"\xF0\x90\x80", "", 0, 0, 0}, {"\xEF\xBF", "", 0, 1, 0}, {"\xBD", "", 1, 2, 0}, {closes, "0-2:0-6", 0, 0, 0}}},
		{".", []call{{"a\u0301", "", 0, 2, 0}, {"\u0323", "", 0, 3, 0}, {"\uAC01", "0-1:0-5", 0, 3, 0}, {"\u11A8", "", 0, 4, 0}, {closes, "1-2:5-11", 0, 0, 0}}},
		{"[^a]*", []call{{"\u0301\u0323", "", 0, 2, 0}, {"\u0344a", "", 1, 5, 0}, {"a", "0-1:0-6 1-1:6-6", 0, 1, 0}, {closes, "2-2:7-7 3-3:8-8", 0, 0, 0}}},
	} {
		script(t, c.pattern, 8, 8, c.calls...)
	}
}

// P12.2: spans and their bytes, by hand: of All, whole and byte by byte.
func TestSpans(t *testing.T) {
	for _, c := range []struct{ pattern, text, want string }{
		{"e\u0301", "\u00E9e", "0-1:0-2"}, {"", "ab", "0-0:0-0 1-1:1-1 2-2:2-2"}, {"$", "ab", "2-2:2-2"}, {"", "", "0-0:0-0"}, {"a", "", ""}, {"$", "", "0-0:0-0"}, {"^", "\u00E9", "0-0:0-0"}, {"a*", "", "0-0:0-0"},
		{"a*", "ba", "0-0:0-0 1-2:1-2 2-2:2-2"}, {"a|ab", "aba", "0-2:0-2 2-3:2-3"}, {"a*b", "aabab", "0-3:0-3 3-5:3-5"}, {"a?", "aab", "0-1:0-1 1-2:1-2 2-2:2-2 3-3:3-3"}, {"a.*b", "xabbc", "1-4:1-4"},
		{"", "\u00E9e\u0301\xFFx", "0-0:0-0 1-1:2-2 2-2:5-5 3-3:6-6 4-4:7-7"}, {"$", "\u00E9\u00E9", "2-2:4-4"}, {"x*", "\u00E9\u1E69x", "0-0:0-0 1-1:2-2 2-3:5-6 3-3:6-6"},
		{"e\u0301+", "xe\u0301\u00E9e", "1-3:1-6"}, {"e", "\u00E9ee\u0301", "1-2:2-3"}, {"a\u0323\u0301", "a\u0301\u0323\u1EA1\u0301\u00E1\u0323", "0-1:0-5 1-2:5-10 2-3:10-14"}, {"\u00C5", "\u212BA\u030A\u00C5A", "0-1:0-3 1-2:3-6 2-3:6-8"}, {"K", "\u212AkK", "0-1:0-3 2-3:4-5"}, {"\uAC01", "\u1100\u1161\u11A8\uAC00\uAC00\u11A8\uAC01", "0-1:0-9 2-3:12-18 3-4:18-21"},
		{"\uFFFD", "\xFF\xE2\x82\xF0\x90\x80\uFFFDa\xC3", "0-1:0-1 1-2:1-3 2-3:3-6 3-4:6-9 5-6:10-11"}, {"\xFF", "\xFE\xED\xA0\x80", "0-1:0-1 1-2:1-2 2-3:2-3 3-4:3-4"}, {"\\p{L}", "1\xFFz", "2-3:2-3"}, {"\\p{L}+\\P{L}", "\u00E9t\u00E9!x", "0-4:0-6"}, {"\\p{S}", "a\xE2\x82", "1-2:1-3"},
		{"\u0301", "\u0301a\u0301", "0-1:0-2"}, {".", "\u0301\u0323\u0345", "0-1:0-6"}, {"*\u0301", "*\u0301*", "0-1:0-3"}, {`\*`, "*\u0301*", "1-2:3-4"}, {"[^a]", "aa\u0301b", "1-2:1-4 2-3:4-5"}, {"a$|^b", "bab", "0-1:0-1"}, {"a$|b^", "ba", "1-2:1-2"}, {"^a", "aa", "0-1:0-1"}, {"(a|$)*", "aba", "0-1:0-1 1-1:1-1 2-3:2-3 3-3:3-3"},
	} {
		for _, room := range rooms {
			config := Config{8, 8, room}
			if l, e := All([]byte(c.pattern), []byte(c.text), config); e != api.OK || !slices.Equal(l, spans(t, c.want)) {
				t.Errorf("%q in %+q, room %d: %s, %v, but should be %s", c.pattern, c.text, room, shown(l), e, c.want)
			}
			for _, chunks := range [][][]byte{{[]byte(c.text)}, bytewise([]byte(c.text)), nil} {
				if chunks == nil && c.text != "" {
					continue
				}
				if w := watch(t, c.pattern, config); w.feed(chunks...) != api.OK || !slices.Equal(w.told, spans(t, c.want)) {
					t.Errorf("%q in %+q, room %d: %s, but should be %s", c.pattern, c.text, room, shown(w.told), c.want)
				}
			}
		}
	}
}

// P12.1: which configurations may be.
func TestConfigs(t *testing.T) {
	may := []Config{{1, 1, 0}, {1, 1, 2}, {64, 4096, 0}, {64, 4096, 4096}, {8, 1, 3}, {1, 4096, 2}, {64, 1, 4095}, {63, 4095, 17}}
	for _, c := range may {
		w := watch(t, "a|bb", c)
		w.feed([]byte("ab"))
		if _, e := All([]byte("a"), nil, c); e != api.OK {
			t.Error(c, e)
		}
	}
	mayNot := []Config{{}, {0, 1, 0}, {65, 1, 0}, {1, 0, 0}, {1, 4097, 0}, {1, 1, 1}, {1, 1, 4097}, {1, 1, -1}, {1, 1, -2}, {-1, 1, 0}, {1, -1, 0}, {0, 0, 0}, {0, 0, 2}, {0, 0, 1}, {8, 0, 1}, {8, 4097, 4097}, {0, 8, 1}, {64, 4096, 1}, {8, 8, -4096}}
	for _, n := range []int{math.MinInt, math.MinInt32, -4096, -64, 1 << 16, 1<<16 + 1, 1<<32 + 2, 1 << 32, math.MaxInt32, math.MaxInt} {
		mayNot = append(mayNot, Config{n, 2, 2}, Config{2, n, 2}, Config{2, 2, n}, Config{2, n, n}, Config{n, 2, n}, Config{n, n, 2}, Config{n, n, n})
	}
	for _, c := range mayNot {
		for _, pattern := range []string{"a", "", "(a", strings.Repeat("a", api.MaxPattern+1), "(a{64}){64}"} { // ahead of a pattern's refusal
			if s, place, e := New([]byte(pattern), c); s != nil || place != 0 || e != api.ErrArg {
				t.Errorf("New(%.10q, %v): %v, %d, %v", pattern, c, s, place, e)
			}
			if l, e := All([]byte(pattern), []byte("aa"), c); len(l) != 0 || e != api.ErrArg {
				t.Errorf("All(%.10q, .., %v): %v, %v", pattern, c, l, e)
			}
		}
	}
}

// P12.1: patterns that are refused, with their places.
func TestRefusals(t *testing.T) {
	for _, c := range []struct {
		pattern string
		place   int
		e       api.Errno
	}{
		{"(a", 2, api.ErrForm}, {"a**", 2, api.ErrForm}, {")", 0, api.ErrForm}, {"a{3,2}", 4, api.ErrForm}, {"[b-a]", 3, api.ErrForm}, {`\p{X}`, 3, api.ErrForm}, {"\u00E9e\u0301{", 3, api.ErrForm}, {"\xFF\xFF(", 3, api.ErrForm}, {`a\`, 2, api.ErrForm},
		{strings.Repeat("(", api.MaxDepth+1), api.MaxDepth, api.ErrDeep}, {strings.Repeat("a", api.MaxPattern+1), 0, api.ErrLong}, {"(a{64}){64}", 0, api.ErrWeight}, {"xy" + strings.Repeat("\u0301", api.MaxSegment) + "z", 1, api.ErrSegment},
	} {
		for _, config := range []Config{{1, 1, 0}, {64, 4096, 2}, {8, 8, api.MaxCache}} {
			if s, place, e := New([]byte(c.pattern), config); s != nil || place != c.place || e != c.e {
				t.Errorf("New(%.10q): %v, %d, %v, but should be %d, %v", c.pattern, s, place, e, c.place, c.e)
			}
			if l, e := All([]byte(c.pattern), []byte("aa"), config); len(l) != 0 || e != c.e {
				t.Errorf("All(%.10q): %v, %v, but should be %v", c.pattern, l, e, c.e)
			}
		}
	}
	// A pattern's segments are no longer than MaxSegment, whatever those of texts may be.
	w := watch(t, "e\u0301\u0302|b", Config{1, 1, 2})
	w.feed([]byte("ab"))
	watch(t, "("+strings.Repeat("a{64}", 63)+"a{63})", Config{1, 1, 2})
}

// P12.5 and R1.
func TestNilStream(t *testing.T) {
	var s *Stream
	for range 2 {
		for _, b := range [][]byte{nil, {}, []byte("ab"), {0xE2}} {
			if l, e := s.Write(b); len(l) != 0 || e != api.ErrArg {
				t.Errorf("Write(%q): %v, %v", b, l, e)
			}
		}
		if s.Err() != api.ErrArg || s.Held() != 0 || s.Points() != 0 || s.States() != 0 {
			t.Error(s.Err(), s.Held(), s.Points(), s.States())
		}
		if l, e := s.Close(); len(l) != 0 || e != api.ErrArg {
			t.Errorf("Close: %v, %v", l, e)
		}
	}
}
