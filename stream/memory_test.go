package stream

import (
	"bytes"
	"runtime"
	"slices"
	"strings"
	"testing"

	"trema/api"
)

// R3: what is handed in is left as it is, spare room and all.
func TestLeftAsItIs(t *testing.T) {
	const behind = "????????"
	for _, room := range rooms {
		for _, config := range []Config{{8, 8, room}, {8, 2, room}, {2, 8, room}, {0, 8, room}} {
			for _, pattern := range []string{"(a|e\u0301)*b", "[^\u00E9]+\xFF", "(a", ""} {
				for _, text := range []string{"aabe\u0301\u00E9b\xFFx", "ae\u0301\u0323\xE2\x82", "", "aaaaa\xF0\x90\x80"} {
					p, b := []byte(pattern+behind), []byte(text+behind)
					All(p[:len(pattern)], b[:len(text)], config)
					if s, _, _ := New(p[:len(pattern)], config); s != nil {
						s.Write(b[:len(text)/2])
						s.Write(b[len(text)/2 : len(text)])
						s.Write(b[:0])
						s.Close()
						s.Write(b[:len(text)])
					}
					if string(p) != pattern+behind || string(b) != text+behind {
						t.Fatalf("%q and %q became %q and %q", pattern, text, p, b)
					}
				}
			}
		}
	}
}

// R3: nothing that was handed in is kept: it may be written over behind the call.
func TestNothingIsKept(t *testing.T) {
	d := dice(8)
	for range 300 {
		x := grow(&d, 1+d.roll(8))
		pattern := []byte(x.pattern(&d))
		text := []byte(written(&d, rolledLetters(&d, d.roll(20))))
		c := Config{pick(&d, 3, 8), pick(&d, 2, 3, 30), pick(&d, 0, 2, 3, 4096)}
		want, bad := All(pattern, text, c)
		s, _, _ := New(pattern, c)
		for i := range pattern {
			pattern[i] = "x|)("[d.roll(4)]
		}
		var told []api.Span
		buffer := make([]byte, 16)
		for _, chunk := range d.cuts(text) {
			n := copy(buffer, chunk)
			l, _ := s.Write(buffer[:n])
			told = append(told, l...)
			for i := range buffer {
				buffer[i] = "ab\xCC\x81"[d.roll(4)]
			}
		}
		l, e := s.Close()
		told = append(told, l...)
		if e != bad || !slices.Equal(told, want) {
			t.Fatalf("%s in %+q, %v: %s, %v, but should be %s, %v", x, text, c, shown(told), e, shown(want), bad)
		}
	}
}

// spoil writes over all that an answer reaches.
func spoil(l []api.Span) {
	all := l[:cap(l)]
	for i := range all {
		all[i] = api.Span{From: -7, To: -7, Start: -7, End: -7}
	}
}

// R3: an answer is new memory, spare room too.
func TestNewMemory(t *testing.T) {
	for _, room := range []int{0, 2, api.MaxCache} {
		for n := range 40 { // with and without spare room
			text := []byte(strings.Repeat("ab", n))
			want := whole(of(t, "a|b$"), text)
			first, _ := All([]byte("a|b$"), text, Config{8, 8, room})
			second, _ := All([]byte("a|b$"), text, Config{8, 8, room})
			if !slices.Equal(first, want) {
				t.Fatal(shown(first))
			}
			spoil(first)
			clear(text)
			if !slices.Equal(second, want) {
				t.Fatal("two answers share memory", shown(second))
			}
		}
		for size := 1; size < 12; size++ {
			text := []byte(strings.Repeat("aba", 40))
			s, _, _ := New([]byte("|a|b$"), Config{8, 8, room})
			var told []api.Span
			var all [][]api.Span
			for chunk := range slices.Chunk(text, size) {
				l, _ := s.Write(chunk)
				told = append(told, l...)
				if len(all)%2 == 0 { // some are kept, others written over
					spoil(l)
				}
				all = append(all, l)
			}
			l, _ := s.Close()
			told = append(told, l...)
			if want := whole(of(t, "|a|b$"), text); !slices.Equal(told, want) {
				t.Fatalf("chunks of %d: %s, but should be %s", size, shown(told), shown(want))
			}
			at := 0
			for i, l := range all {
				if i%2 == 1 && !slices.Equal(l, told[at:at+len(l)]) {
					t.Fatalf("chunks of %d: an answer was changed: %s", size, shown(l))
				}
				at += len(l)
			}
		}
	}
}

// R2: streams do not mix: each goes on as if there were no other, those of one pattern
// too.
func TestStreamsDoNotMix(t *testing.T) {
	d := dice(9)
	type step struct {
		chunk                []byte
		told                 []api.Span
		e                    api.Errno
		held, points, states int
	}
	make1 := func(s *Stream, chunk []byte) step {
		x := step{chunk: chunk}
		x.told, x.e = s.Write(chunk)
		x.held, x.points, x.states = s.Held(), s.Points(), s.States()
		return x
	}
	type one struct {
		pattern string
		c       Config
		steps   []step
	}
	var all []one
	for i, pattern := range []string{"a*b", "a*b", "(a|b)*\u00E9", "a*b", "(a|b)*a.{2}", ".*|b", "", "aa*b", "(a|b)*a.{2}"} {
		x := one{pattern: pattern, c: Config{8, []int{16, 3, 64, 16}[i%4], []int{0, 2, 4096, 3, 5}[i%5]}}
		s, _, _ := New([]byte(pattern), x.c)
		for range 60 {
			x.steps = append(x.steps, make1(s, []byte(written(&d, rolledLetters(&d, d.roll(3))))))
		}
		all = append(all, x)
	}
	for range 2 {
		streams := make([]*Stream, len(all))
		for i, x := range all {
			streams[i], _, _ = New([]byte(x.pattern), x.c)
		}
		for k := range 60 {
			for i, s := range streams {
				want := all[i].steps[k]
				got := make1(s, want.chunk)
				if !slices.Equal(got.told, want.told) || got.e != want.e || got.held != want.held || got.points != want.points || got.states != want.states {
					t.Fatalf("%q %v: Write(%+q): %v, but alone it was %v", all[i].pattern, all[i].c, want.chunk, got, want)
				}
			}
		}
	}
}

// P5 and rule 8 of the language: what is kept from call to call is bound by the limits,
// whatever comes, and let go of at the end.
func TestWhatIsKept(t *testing.T) {
	memory := func() uint64 {
		runtime.GC()
		runtime.GC()
		var m runtime.MemStats
		runtime.ReadMemStats(&m)
		return m.HeapAlloc
	}
	line := strings.Repeat("a\u0323\u0301", 40) + "b"
	big := bytes.Repeat([]byte(line), 3000)
	for _, room := range []int{0, 2} {
		s, _, _ := New([]byte("a{30,50}"), Config{8, api.MaxWindow, room})
		for range 3 {
			was := memory()
			s.Write(big)
			if is := memory(); is > was+1<<20 {
				t.Error(is-was, "bytes more are kept, of", len(big))
			}
			if cap(s.window.texts) > 2*api.MaxWindow || cap(s.window.ends) > 2*api.MaxWindow {
				t.Error("room for", cap(s.window.texts), "segments")
			}
		}
		for i, end := range []string{"", "\u0323" + strings.Repeat("\u0301", 8), strings.Repeat("a", 2)} {
			s, _, _ := New([]byte("^(a|e\u0301)*"), Config{8, 30, room})
			s.Write([]byte(strings.Repeat("a\u00E9", 14) + "a"))
			if s.Held() != 28 || s.Points() != 43 {
				t.Error(s.Held(), s.Points())
			}
			if i == 0 {
				s.Close()
			} else {
				s.Write([]byte(end))
			}
			if s.segmenter != nil || s.window.texts != nil || s.window.ends != nil || s.decided != nil {
				t.Errorf("behind %+q it keeps what it had", end)
			}
		}
		runtime.KeepAlive(s)
	}
}

// What has gone by is let go of: nothing ahead of the base is reached any more.
func TestWhatHasGoneBy(t *testing.T) {
	s, _, _ := New([]byte("abc|b"), Config{8, 100, 0})
	s.Write([]byte(strings.Repeat("ab", 20) + "xa"))
	texts := s.window.texts
	if s.Held() != 0 || len(texts) != 0 {
		t.Fatal(s.Held())
	}
	s.window.add([]api.Segment{{Text: "a", End: 1}, {Text: "b", End: 2}, {Text: "c", End: 3}})
	behind := s.window.texts
	s.window.move(2)
	if behind[0] != "" || behind[1] != "" || s.window.texts[0] != "c" {
		t.Error(behind)
	}
}
