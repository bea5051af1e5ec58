package stream

import (
	"slices"
	"strings"
	"testing"

	"trema/api"
)

const (
	tooMany = api.ErrWindow
	tooLong = api.ErrSegment
)

// P12.1: ErrWindow and ErrSegment, in Write and in Close, with the spans decided ahead,
// and what comes behind.
func TestErrors(t *testing.T) {
	const closed = api.ErrClosed
	for _, c := range []struct {
		pattern         string
		segment, window int
		calls           []call
	}{
		// The chapter's example: the third a's coming makes two whole ones.
		{"a*", 8, 2, []call{{"aa", "", 1, 2, 0}, {"a", "", 0, 0, tooMany}, {"a", "", 0, 0, tooMany}, {closes, "", 0, 0, tooMany}, {"", "", 0, 0, tooMany}}},
		{"a*", 8, 2, []call{{"aaa", "", 0, 0, tooMany}, {closes, "", 0, 0, tooMany}}},
		{"a*", 8, 3, []call{{"aaa", "", 2, 3, 0}, {"", "", 2, 3, 0}, {"b", "", 0, 0, tooMany}}},
		{"a*", 8, 3, []call{{"aab", "", 2, 3, 0}, {"b", "0-2:0-2 2-2:2-2", 0, 1, 0}, {closes, "3-3:3-3 4-4:4-4", 0, 0, 0}, {closes, "", 0, 0, closed}, {"a", "", 0, 0, closed}}},
		{"a*", 8, 1, []call{{"a", "", 0, 1, 0}, {"a", "", 0, 0, tooMany}}},
		{"a*", 8, 1, []call{{"bbb", "0-0:0-0 1-1:1-1", 0, 1, 0}, {"a", "2-2:2-2", 0, 1, 0}, {"b", "", 0, 0, tooMany}}},
		{"a", 8, 1, []call{{"aaa", "0-1:0-1 1-2:1-2", 0, 1, 0}, {closes, "2-3:2-3", 0, 0, 0}}},
		// In Close: what comes there comes as anywhere.
		{"a*", 8, 1, []call{{"a", "", 0, 1, 0}, {closes, "", 0, 0, tooMany}, {closes, "", 0, 0, tooMany}, {"a", "", 0, 0, tooMany}}},
		{"a*", 8, 2, []call{{"aa", "", 1, 2, 0}, {closes, "", 0, 0, tooMany}}},
		{"a*", 8, 3, []call{{"aa", "", 1, 2, 0}, {closes, "0-2:0-2 2-2:2-2", 0, 0, 0}}},
		{"a$", 8, 1, []call{{"ba", "", 0, 1, 0}, {closes, "", 0, 0, tooMany}}},
		{"a$", 8, 2, []call{{"ba", "", 0, 1, 0}, {closes, "1-2:1-2", 0, 0, 0}}},
		{"a", 8, 1, []call{{"a", "", 0, 1, 0}, {closes, "0-1:0-1", 0, 0, 0}}},
		{"", 8, 1, []call{{"a", "0-0:0-0", 0, 1, 0}, {closes, "1-1:1-1", 0, 0, 0}}},
		{"a|\uFFFD+", 8, 1, []call{{"a\xE2", "", 0, 1, 0}, {closes, "0-1:0-1", 0, 0, tooMany}}},
		{"a|\uFFFD+", 8, 2, []call{{"a\xE2", "", 0, 1, 0}, {closes, "0-1:0-1 1-2:1-2", 0, 0, 0}}},
		{".*", 8, 2, []call{{"a\xE2", "", 0, 1, 0}, {closes, "", 0, 0, tooMany}}},
		{"..*", 8, 2, []call{{"\xE2", "", 0, 0, 0}, {closes, "0-1:0-1", 0, 0, 0}}},
		// Spans that are decided ahead, in the same call and in others.
		{"b|aa*", 8, 2, []call{{"bbaa", "0-1:0-1 1-2:1-2", 1, 2, 0}, {"a", "", 0, 0, tooMany}}},
		{"b|aa*", 8, 2, []call{{"bbaaa", "0-1:0-1 1-2:1-2", 0, 0, tooMany}, {"b", "", 0, 0, tooMany}}},
		{"b|aa*", 8, 2, []call{{"bbaaabbb", "0-1:0-1 1-2:1-2", 0, 0, tooMany}}},
		{"a*", 8, 3, []call{{"ba", "0-0:0-0", 0, 1, 0}, {"abcaaaa", "1-3:1-3 3-3:3-3 4-4:4-4", 0, 0, tooMany}}},
		{"^a*|b", 8, 2, []call{{"abaaaab", "0-1:0-1 1-2:1-2", 0, 1, 0}, {"\u00E9", "6-7:6-7", 0, 2, 0}, {closes, "", 0, 0, 0}}},
		// A place that is left lets the window shrink again, however often.
		{"aab", 8, 3, []call{{"aaaaaaaaab", "", 2, 3, 0}, {"aab", "7-10:7-10", 2, 3, 0}, {closes, "10-13:10-13", 0, 0, 0}}},
		{"aab", 8, 2, []call{{"aa", "", 1, 2, 0}, {"c", "", 0, 0, tooMany}}},
		{"aab", 8, 2, []call{{"acac", "", 1, 2, 0}, {"c", "", 0, 1, 0}, {closes, "", 0, 0, 0}}},
		// Segments that are too long, as soon as they are, behind those that are told beside.
		{"a", 2, 2, []call{{"ae\u0301", "0-1:0-1", 0, 2, 0}, {"\u0323", "", 0, 0, tooLong}, {"b", "", 0, 0, tooLong}, {closes, "", 0, 0, tooLong}}},
		{"a", 2, 2, []call{{"aae\u0301\xCC", "0-1:0-1 1-2:1-2", 0, 2, 0}, {"\xA3", "", 0, 0, tooLong}}},
		{"a", 2, 2, []call{{"ae\u0301\u0323b", "0-1:0-1", 0, 0, tooLong}, {closes, "", 0, 0, tooLong}}},
		{"a", 1, 2, []call{{"a\u00E9", "0-1:0-1", 0, 0, tooLong}}},
		{"a+", 1, 3, []call{{"aa", "", 1, 2, 0}, {"\u0301", "", 0, 0, tooLong}}},
		{"a+", 1, 3, []call{{"baa", "", 1, 2, 0}, {"b\u0301", "", 0, 0, tooLong}}},
		{".", 2, 2, []call{{"\u1E69", "", 0, 0, tooLong}}},
		{".", 3, 2, []call{{"\u1E69", "", 0, 3, 0}, {"\u1E69\u0301", "0-1:0-3", 0, 0, tooLong}}},
		// What New has decided is told beside an error.
		{"", 1, 1, []call{{"e\u0301", "0-0:0-0", 0, 0, tooLong}, {closes, "", 0, 0, tooLong}}},
		{"^|aa", 1, 1, []call{{"b", "", 0, 1, 0}, {"a", "0-0:0-0", 0, 1, 0}, {"a", "", 0, 0, tooMany}}},
		{"", 1, 1, []call{{"", "0-0:0-0", 0, 0, 0}, {"a\u0301", "", 0, 0, tooLong}}},
		{"", 1, 1, []call{{"ba\u0301", "0-0:0-0 1-1:1-1", 0, 0, tooLong}}},
		// Whichever comes first.
		{"a*", 1, 2, []call{{"aab\u0301", "", 0, 0, tooMany}, {closes, "", 0, 0, tooMany}}},
		{"a*", 1, 3, []call{{"aab\u0301", "", 0, 0, tooLong}, {closes, "", 0, 0, tooLong}}},
		{"a*", 1, 2, []call{{"aa\u0301", "", 0, 0, tooLong}, {"aaa", "", 0, 0, tooLong}}},
	} {
		script(t, c.pattern, c.segment, c.window, c.calls...)
	}
}

// P12.1, All: New's error is told elsewhere; the spans ahead of an error, with it.
func TestAllWithErrors(t *testing.T) {
	for _, c := range []struct {
		pattern, text string
		want          string
		e             api.Errno
	}{
		{"a*", "aaa", "", tooMany}, {"a*", "aa", "", tooMany}, {"a*", "a", "0-1:0-1 1-1:1-1", api.OK}, {"a", "ae\u0301\u0323b", "0-1:0-1", tooLong}, {"a", "ae\u0301", "0-1:0-1", api.OK}, {"b|a+", "bbaa", "0-1:0-1 1-2:1-2", tooMany}, {"", "a\u1E69", "0-0:0-0 1-1:1-1", tooLong}, {"", "\u1E69", "0-0:0-0", tooLong}, {"b|\uFFFD+", "b\xFF\xE2", "0-1:0-1", tooMany},
	} {
		for _, room := range rooms {
			if l, e := All([]byte(c.pattern), []byte(c.text), Config{2, 2, room}); e != c.e || !slices.Equal(l, spans(t, c.want)) {
				t.Errorf("%q in %+q, room %d: %s, %v, but should be %s, %v", c.pattern, c.text, room, shown(l), e, c.want, c.e)
			}
		}
	}
}

// P5 of DOC.md: ErrWindow just where from some place the program is still open behind so
// many segments; at each limit next to how far runs go.
func TestEveryWindow(t *testing.T) {
	for n := 1; n <= 20; n++ { // a run of n segments, and one that can't go on
		text := []byte("xx" + strings.Repeat("a", n) + "xx" + strings.Repeat("a", n-1) + "x")
		ends := []byte("xx" + strings.Repeat("a", n))
		for window := 1; window <= n+3; window++ {
			for _, room := range rooms {
				for _, chunks := range [][][]byte{{text}, bytewise(text), {text[:3], text[3:]}} {
					want := api.OK
					if window <= n {
						want = tooMany
					}
					if e := watch(t, "a+", Config{1, window, room}).feed(chunks...); e != want {
						t.Fatalf("runs of %d, window %d: %v", n, window, e)
					}
				}
				for _, chunks := range [][][]byte{{ends}, bytewise(ends)} {
					want := api.OK
					if window <= n {
						want = tooMany
					}
					if e := watch(t, "a+", Config{1, window, room}).feed(chunks...); e != want {
						t.Fatalf("a run of %d up to the end, window %d: %v", n, window, e)
					}
				}
			}
		}
	}
}

// P5 of DOC.md: ErrSegment just where a segment has more code points than may be.
func TestEverySegment(t *testing.T) {
	for n := 1; n <= api.MaxSegment; n++ {
		for _, text := range []string{"ae" + strings.Repeat("\u0301", n-1) + "a", "ae" + strings.Repeat("\u0301", n-1), "ab" + strings.Repeat("\u0344", n/2) + "a"} {
			for _, segment := range []int{max(1, n-1), n, min(n+1, api.MaxSegment)} {
				longest := 0
				for _, s := range cut([]byte(text)) {
					longest = max(longest, long(s))
				}
				want := api.OK
				if longest > segment {
					want = tooLong
				}
				w := watch(t, "a", Config{segment, 2, 0})
				if e := w.feed(bytewise([]byte(text))...); e != want || len(w.told) == 0 {
					t.Fatalf("%d code points, limit %d: %v, %s", longest, segment, e, shown(w.told))
				}
				watch(t, "a", Config{segment, 2, 2}).feed([]byte(text))
			}
		}
	}
}

// Behind an error and behind Close States stays what the engine has.
func TestStatesStay(t *testing.T) {
	for _, text := range []string{"ab", "abab", "aaaaa", "ae\u0301\u0301", ""} {
		for _, room := range []int{0, 2, 3, api.MaxCache} {
			s, _, _ := New([]byte("a*b?"), Config{2, 4, room})
			s.Write([]byte(text))
			s.Close()
			was := s.States()
			if was != s.engine.States() || (was == 0) != (room == 0) {
				t.Error(text, room, was)
			}
			s.Write([]byte("aab"))
			s.Close()
			if s.States() != was || s.Held() != 0 || s.Points() != 0 {
				t.Error(text, room, was, s.States(), s.Held(), s.Points())
			}
		}
	}
}
