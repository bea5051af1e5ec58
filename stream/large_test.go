package stream

import (
	"slices"
	"strings"
	"testing"

	"trema/api"
)

// P12.1 and P12.4 at the limits: as many segments undecided as may be, as long as they
// may be.
func TestLimits(t *testing.T) {
	const most = api.MaxWindow
	for _, room := range []int{0, 2, api.MaxCache} {
		c := Config{api.MaxSegment, most, room}
		row := []byte(strings.Repeat("a", most))
		s, _, _ := New([]byte("a*b?"), c)
		if l, e := s.Write(row); len(l) != 0 || e != api.OK || s.Held() != most-1 || s.Points() != most {
			t.Fatal(l, e, s.Held(), s.Points())
		}
		if l, e := s.Write([]byte("b")); len(l) != 0 || e != tooMany || s.Held() != 0 || s.Points() != 0 {
			t.Fatal(l, e, s.Held(), s.Points())
		}
		s, _, _ = New([]byte("a*b?"), c)
		s.Write(row[1:])
		want := api.Span{From: 0, To: most, Start: 0, End: most}
		if l, e := s.Write([]byte("bb")); !slices.Equal(l, []api.Span{want}) || e != api.OK {
			t.Fatal(l, e)
		}
		if l, e := All([]byte("a*"), row[1:], c); len(l) != 2 || l[0].To != most-1 || l[1] != (api.Span{From: most - 1, To: most - 1, Start: most - 1, End: most - 1}) || e != api.OK {
			t.Fatal(l, e)
		}
		if l, e := All([]byte("a*"), row, c); len(l) != 0 || e != tooMany { // told by Close
			t.Fatal(l, e)
		}
	}
	letter := "e" + strings.Repeat("\u0301\u0323", api.MaxSegment/2)[:2*(api.MaxSegment-1)]
	s, _, _ := New([]byte("("+letter+")+"), Config{api.MaxSegment, 100, 0})
	for range 100 {
		if l, e := s.Write([]byte(letter)); len(l) != 0 || e != api.OK {
			t.Fatal(l, e)
		}
	}
	if s.Held() != 99 || s.Points() != 100*api.MaxSegment {
		t.Error(s.Held(), s.Points())
	}
	if _, e := s.Write([]byte("\u0338")); e != tooLong {
		t.Error(e)
	}
}

// P12.1: places and bytes go on counting, in chunks of all sizes.
func TestLongText(t *testing.T) {
	d := dice(10)
	text := []byte(written(&d, rolledLetters(&d, 20000)))
	for _, pattern := range []string{"ab+", "(a|\u00E9)+", "[^a]{2}|", `\u{1EA1}\u{302}\u{301}|a{4}`, "$", "b.{1,5}a", "\uFFFD"} {
		want := whole(of(t, pattern), text)
		for _, room := range []int{0, 2, 50} {
			for _, size := range []int{1, 7, 1000, len(text)} {
				s, _, _ := New([]byte(pattern), Config{8, 64, room})
				told, e := api.Span{}, api.OK
				n := 0
				for chunk := range slices.Chunk(text, size) {
					var l []api.Span
					l, e = s.Write(chunk)
					for _, told = range l {
						if n >= len(want) || told != want[n] {
							t.Fatalf("%q, chunks of %d, room %d: span %d is %v", pattern, size, room, n, told)
						}
						n++
					}
				}
				l, e2 := s.Close()
				if e != api.OK || e2 != api.OK || !slices.Equal(l, want[n:]) {
					t.Fatalf("%q, chunks of %d, room %d: %v, %v, Close %s", pattern, size, room, e, e2, shown(l))
				}
			}
		}
	}
}

// R1: heavy programs, and runs as long as a window may be, over long texts.
func TestHeavy(t *testing.T) {
	for _, room := range []int{0, api.MaxCache} {
		c := Config{api.MaxSegment, api.MaxWindow, room}
		row := []byte(strings.Repeat("a", 20000))
		l, e := All([]byte("((a?){64}){31}"), row, c)
		if len(l) != 12 || e != api.OK || l[10] != (api.Span{From: 19840, To: 20000, Start: 19840, End: 20000}) || l[11].From != 20000 {
			t.Error(len(l), e)
		}
		l, e = All([]byte("(.{64}){63}.{63}"), slices.Repeat([]byte("\u00E9"), 4095*15), c)
		if len(l) != 15 || e != api.OK || l[14] != (api.Span{From: 14 * 4095, To: 15 * 4095, Start: 14 * 2 * 4095, End: 15 * 2 * 4095}) {
			t.Error(len(l), e)
		}
		l, e = All([]byte("b[^b]*b"), []byte(strings.Repeat("ab"+strings.Repeat("a", 4000)+"ba", 20)), c)
		if len(l) != 20 || e != api.OK {
			t.Error(len(l), e)
		}
	}
}

// counted is an engine that counts what it is asked.
type counted struct {
	engine
	asks int
}

func (c *counted) Longest(window []string, at int, begin, final bool) (end int, found, open bool, e api.Errno) {
	c.asks++
	return c.engine.Longest(window, at, begin, final)
}

// The engine is asked once for a place at which a match is looked for, and once more each
// time when the segments that came end: not behind each segment, since long windows would
// cost the square then, and not where none came.
func TestAsks(t *testing.T) {
	for _, c := range []struct {
		pattern, text string
		window, size  int
		most          int
	}{
		{"a{64}", strings.Repeat("a", 6400), 100, 6400, 2*100 + 3}, {"a{64}", strings.Repeat("a", 6400), 4096, 1600, 100 + 4 + 2 + 2}, {"(a{64}){60}", strings.Repeat("a", 4000), 4096, 4000, 1 + 2 + 1 + 161}, {"a+", strings.Repeat("b", 6400), 64, 6400, 6400 + 100 + 3}, {"a*", strings.Repeat("a", 200000), 4096, 200000, 2},
		{"a*", strings.Repeat("a", 50), 51, 1, 50 + 3}, {"a+b", "a" + strings.Repeat("\u0301", 60), 51, 1, 4}, {"", strings.Repeat("a", 100), 1, 1, 102},
	} {
		for _, room := range []int{0, 2} {
			s, _, _ := New([]byte(c.pattern), Config{64, c.window, room})
			x := &counted{engine: s.engine, asks: 1}
			s.engine = x
			for chunk := range slices.Chunk([]byte(c.text), c.size) {
				s.Write(chunk)
			}
			s.Close()
			if x.asks > c.most {
				t.Errorf("%q over %d bytes, %d at once: %d asks", c.pattern, len(c.text), c.size, x.asks)
			}
		}
	}
}
