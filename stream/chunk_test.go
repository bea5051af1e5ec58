package stream

import (
	"slices"
	"testing"

	"trema/api"
)

// patterns are of all kinds, short enough for many texts.
var patterns = []string{
	"", "a", "a*", "a+b", "^", "$", "^$", "^a", "a$", "a*$", "(^a|b)*", "a|ab|aba", "a.*b", ".", "..", "(..)*", "[^a]+", "aab|b", "b|", "(a$|ab)?", "e\u0301", "\u00E9|e", `\p{L}+`, `\P{L}`, "\uFFFD+", "\u0301*", "a{2,3}", "(a|e\u0301)*b", `[^\\]a?`,
}

// chunked are texts with all kinds of pieces at the front, in the midst and at the end,
// short enough for every cut of them.
var chunked = []string{
	"", "a", "ab", "aab", "aaaa", "abab", "bba", "aabab", "\u00E9e", "e\u0301e", "\u00E9\u00E9b", "a\u00E9b", "ae\u0301\u0323b", "\u0301a", "\u0301\u0344", "\xFFa", "a\xE2\x82", "\xE2\x82\u0301a", "a\xF0\x90\x80b", "a\xCC", "\xCC\xCC\x81", "\xED\xA0\x80", "\uAC01a", "\u1161\u11A8", "a\u1E69b", "1\xFFz", "aa\uFFFD",
}

// configs are of all kinds; long texts meet their windows.
var configs = []Config{
	{64, 4096, 0}, {64, 4096, 2}, {64, 4096, 4096}, {8, 8, 3}, {8, 4, 0}, {8, 3, 2}, {2, 2, 0}, {2, 2, 5}, {8, 2, 4096}, {1, 1, 0}, {1, 3, 2}, {3, 1, 4}, {2, 64, 0},
}

// P1 and P12.1 to P12.4: every cut of short texts, and chunks of no bytes between.
func TestEveryCut(t *testing.T) {
	d := dice(1)
	for _, text := range chunked {
		b := []byte(text)
		all := 1 << max(len(b)-1, 0)
		for i, pattern := range patterns {
			for range 3 {
				c := pick(&d, configs...)
				for cuts := range all {
					if all > 16 && (cuts+i)%(all/16) != 0 && cuts != all-1 { // some of them for each pattern, others for others
						continue
					}
					chunks := cutAt(b, cuts)
					watch(t, pattern, c).feed(chunks...)
					var spaced [][]byte
					for _, x := range chunks {
						spaced = append(spaced, nil, x, []byte{})
					}
					watch(t, pattern, c).feed(spaced...)
				}
			}
		}
	}
	for _, text := range []string{"a\u00E9ab", "aab\xE2\x82", "ae\u0301\u0323a"} { // all for some
		for _, pattern := range []string{"a*", "a|\u00E9.*b", "$", "[^a]+|"} {
			for _, c := range configs {
				for cuts := range 1 << (len(text) - 1) {
					watch(t, pattern, c).feed(cutAt([]byte(text), cuts)...)
				}
			}
		}
	}
}

// P1: with each configuration's limits all rooms and all cuts tell the same spans and the
// same error.
func TestAllTheSame(t *testing.T) {
	d := dice(2)
	for _, text := range append(slices.Clone(chunked), "aabaaabab", "babaa\u00E9aab", "abcabcabcabc") {
		b := []byte(text)
		for _, pattern := range patterns {
			for _, c := range configs {
				want, bad := All([]byte(pattern), b, c)
				for _, room := range []int{0, 2, 3, api.MaxCache} {
					c.Room = room
					s, _, _ := New([]byte(pattern), c)
					var told []api.Span
					e := api.OK
					for _, x := range d.cuts(b) {
						var l []api.Span
						l, e = s.Write(x)
						told = append(told, l...)
					}
					l, e := s.Close()
					told = append(told, l...)
					if e != bad || !slices.Equal(told, want) {
						t.Fatalf("%q in %+q, %v: %s, %v, but at once %s, %v", pattern, text, c, shown(told), e, shown(want), bad)
					}
					if l, e := All([]byte(pattern), b, c); e != bad || !slices.Equal(l, want) {
						t.Fatalf("%q in %+q, %v: %s, %v, but should be %s, %v", pattern, text, c, shown(l), e, shown(want), bad)
					}
				}
			}
		}
	}
}

// pieces are those of which short texts are made.
var pieces = []string{"a", "b", "e", "\u00E9", "\u0301", "\u0323", "\u1E69", "\uAC00", "\u11A8", "\xFF", "\xE2\x82", "\xCC"}

// P12.1: all texts of up to three pieces, whole and byte by byte, each with some patterns
// and configurations.
func TestShortTexts(t *testing.T) {
	d := dice(3)
	var texts []string
	for _, x := range append(slices.Clone(pieces), "") {
		for _, y := range pieces {
			for _, z := range append(slices.Clone(pieces), "") {
				texts = append(texts, x+y+z)
			}
		}
	}
	for _, text := range texts {
		for range 8 {
			pattern, c := pick(&d, patterns...), pick(&d, configs...)
			watch(t, pattern, c).feed([]byte(text))
			watch(t, pattern, c).feed(bytewise([]byte(text))...)
		}
	}
}

// P12.1 to P12.4: longer texts, any patterns, chunks and configurations.
func TestRolled(t *testing.T) {
	d := dice(4)
	ended := map[api.Errno]int{}
	found := 0
	for i := range 2500 {
		x := grow(&d, 1+i%9)
		letters := rolledLetters(&d, d.roll(40))
		for range 3 {
			c := Config{pick(&d, 1, 2, 3, 4, 4, 8, 64), pick(&d, 1, 2, 3, 4, 5, 8, 16, 30, 4096), pick(&d, 0, 0, 2, 3, 4, 6, 20, 4096)}
			b := []byte(written(&d, letters))
			for range d.roll(3) { // any bytes
				if len(b) > 0 {
					b[d.roll(len(b))] = byte(d.roll(256))
				}
			}
			w := watch(t, x.pattern(&d), c)
			ended[w.feed(pick(&d, d.cuts(b), d.cuts(b), bytewise(b), [][]byte{b})...)]++
			if len(w.told) > 1 {
				found++
			}
		}
	}
	if ended[api.OK] < 1000 || ended[tooMany] < 500 || ended[tooLong] < 500 || found < 1500 {
		t.Error("too few of a kind", ended, found)
	}
}

// P12.4: however small, the room is no matter; and it is used up where it is needed.
func TestRooms(t *testing.T) {
	d := dice(5)
	for room := 2; room < 12; room++ {
		w := watch(t, "(a|b)*a(a|b){3}|e\u0301", Config{4, 64, room})
		most := 0
		for range 200 {
			w.write([]byte(pick(&d, "a", "b", "ab", "aab", "e\u0301c", "\u00E9c", "bc")))
			most = max(most, w.s.States())
		}
		w.close()
		if most != room {
			t.Error("room", room, "but at most", most, "states")
		}
	}
}
