package seg

import (
	"slices"
	"strings"
	"testing"

	"trema/api"
	"trema/utf"
)

// feed hands chunks to a new segmenter and closes it, and holds each answer
// against what the chapter's words say of all bytes up to there.
func feed(t *testing.T, limit int, chunks ...[]byte) {
	t.Helper()
	s := fresh(t, limit)
	var all []byte
	var told []api.Segment
	for _, chunk := range chunks {
		all = append(all, chunk...)
		l, e := s.Write(chunk)
		told = append(told, l...)
		want, pending, bad := soFar(all, limit)
		same(t, "so far, Write", all, told, want)
		if e != bad || s.Err() != bad || s.Pending() != pending {
			t.Fatalf("Write of %q, limit %d: %v, Err %v, Pending %d", all, limit, e, s.Err(), s.Pending())
		}
		if e != api.OK {
			silent(t, s, api.ErrSegment)
			return
		}
	}
	l, e := s.Close()
	told = append(told, l...)
	want, bad := Split(all, limit)
	same(t, "Write and Close", all, told, want)
	if e != bad {
		t.Fatalf("Close behind %q, limit %d: %v", all, limit, e)
	}
	silent(t, s, api.ErrClosed)
}

// fresh is a new segmenter that has nothing to tell yet.
func fresh(t *testing.T, limit int) *Segmenter {
	t.Helper()
	s, e := New(limit)
	if s == nil || e != api.OK {
		t.Fatalf("New(%d): %v, %v", limit, s, e)
	}
	if s.Pending() != 0 || s.Err() != api.OK {
		t.Fatalf("a new one: Pending %d, Err %v", s.Pending(), s.Err())
	}
	return s
}

// silent sees to it that nothing comes any more but that error.
func silent(t *testing.T, s *Segmenter, want api.Errno) {
	t.Helper()
	err := want
	if want == api.ErrClosed {
		err = api.OK
	}
	check := func(call string, l []api.Segment, e api.Errno) {
		t.Helper()
		if len(l) != 0 || e != want || s.Pending() != 0 || s.Err() != err {
			t.Fatalf("%s at the end: %v, %v, Pending %d, Err %v", call, l, e, s.Pending(), s.Err())
		}
	}
	check("Pending", nil, want)
	for range 2 {
		for _, b := range []string{"x", "\u0301", "e\u0301x", "\xE2", "\x82\xAC", "", marked(api.MaxSegment + 1)} {
			l, e := s.Write([]byte(b))
			check("Write", l, e)
		}
		l, e := s.Close()
		check("Close", l, e)
	}
}

// P4.2, every cut of short texts, with empty chunks between too.
func TestEveryCut(t *testing.T) {
	for _, text := range chunked {
		b := []byte(text)
		for cuts := range 1 << max(len(b)-1, 0) {
			chunks := cutAt(b, cuts)
			var spaced [][]byte
			for _, c := range chunks {
				spaced = append(spaced, nil, c, []byte{})
			}
			for _, limit := range []int{1, 2, 3, api.MaxSegment} {
				feed(t, limit, chunks...)
				feed(t, limit, spaced...)
			}
		}
	}
}

// P4.2, all short texts of all pieces, byte by byte, and in two chunks.
func TestShortTextsInChunks(t *testing.T) {
	eachOf(pieces, 2, func(text string) {
		b := []byte(text)
		for _, limit := range []int{1, 2, 3, 4, 5, api.MaxSegment} {
			feed(t, limit, cutAt(b, -1)...)
			for i := range len(b) + 1 {
				feed(t, limit, b[:i], b[i:])
			}
		}
	})
	eachOf(pieces, 3, func(text string) { feed(t, 3, cutAt([]byte(text), -1)...) })
}

// P4.2, a long text in chunks of one size: places go on counting. A bad segment
// stands at its end, in one of them.
func TestLongTextInChunks(t *testing.T) {
	fine := mixed(200000, 20)
	l := said(fine)
	for _, b := range [][]byte{fine, slices.Concat(fine, []byte(marked(api.MaxSegment+1)), fine)} {
		for _, size := range []int{1, 2, 3, 5, 64, 1021, 70000, len(b)} {
			s := fresh(t, api.MaxSegment)
			var told []api.Segment
			end := api.OK
			for chunk := range slices.Chunk(b, size) {
				some, e := s.Write(chunk)
				told = append(told, some...)
				if e != api.OK {
					end = e
					break
				}
			}
			some, e := s.Close()
			told = append(told, some...)
			same(t, "Write", nil, told, l)
			if (len(b) > len(fine)) != (end == api.ErrSegment) || e != end {
				t.Errorf("chunks of %d: %v, Close %v", size, end, e)
			}
		}
	}
}

// P4.1 and P4.2, segments just as long as each limit and one longer, byte by
// byte and in one chunk with whole ones ahead: ErrSegment is told at once.
func TestEveryLimitInChunks(t *testing.T) {
	for limit := 1; limit <= api.MaxSegment; limit++ {
		for _, text := range []string{
			marked(limit), marked(limit) + "x", marked(limit + 1), marked(limit+1) + "x",
			"x\u00E9x" + marked(limit), "xyz" + marked(limit+1) + "xyz", "\u0301" + marked(limit+2),
		} {
			b := []byte(text)
			feed(t, limit, b)
			feed(t, limit, b[:3%len(b)], b[3%len(b):])
			if limit < 10 || limit > api.MaxSegment-3 {
				feed(t, limit, cutAt(b, -1)...)
			}
		}
	}
}

// P4.1 and P4.2, the chapter's example, step by step.
func TestWriteTellsTheExample(t *testing.T) {
	s := fresh(t, 8)
	for _, c := range []struct {
		in   string
		want []api.Segment
	}{
		{"e", nil},
		{"\xCC", nil},
		{"\x81x", []api.Segment{{Text: "e\u0301", At: 0, End: 3}}},
	} {
		l, e := s.Write([]byte(c.in))
		same(t, "Write", []byte(c.in), l, c.want)
		if e != api.OK || s.Pending() != 1 || s.Err() != api.OK {
			t.Errorf("Write(%q): %v, Pending %d, Err %v", c.in, e, s.Pending(), s.Err())
		}
	}
	l, e := s.Close()
	same(t, "Close", nil, l, []api.Segment{{Text: "x", At: 3, End: 4}})
	if e != api.OK {
		t.Errorf("Close: %v", e)
	}
	silent(t, s, api.ErrClosed)
}

// P4.1: Pending counts what the normal form has, of code points that are sure.
func TestPending(t *testing.T) {
	for _, c := range []struct {
		in   string
		want int
	}{
		{"", 0}, {"x", 1}, {"xy", 1}, {"\u0301", 1}, {"e\u0301", 2}, {"\u00E9", 2}, {"x\u00E9\u0323", 3}, {"\u1E69", 3},
		{"\u0344", 2}, {"\uAC01", 3}, {"\uAC01\u11A8", 4}, {"\uAC01\u1100", 1}, {"\u212A", 1}, {"\xFF", 1}, {"e\u0301\xFF", 1},
		{"e\u0301\xCC", 2}, {"\xCC", 0}, {"\xF0\x90\x80", 0}, {"\xE2\x82\xCC", 1}, {marked(api.MaxSegment), api.MaxSegment},
		{"e\xF0\x9F\x98", 1}, {"\u00E9\xEA\xB0", 2},
	} {
		s := fresh(t, api.MaxSegment)
		if _, e := s.Write([]byte(c.in)); e != api.OK || s.Pending() != c.want {
			t.Errorf("Pending behind %+q: %d, but should be %d (%v)", c.in, s.Pending(), c.want, e)
		}
	}
}

// P4.1: what layer 1 kept back is sure at Close, and the last segment is whole.
func TestCloseTellsTheRest(t *testing.T) {
	for _, c := range []struct {
		in   string
		want []api.Segment
	}{
		{"", nil},
		{"xe\u0301", []api.Segment{{Text: "e\u0301", At: 1, End: 4}}},
		{"\u0323", []api.Segment{{Text: "\u0323", At: 0, End: 2}}},
		{"\xCC", []api.Segment{{Text: "\uFFFD", At: 0, End: 1}}},
		{"e\u0301\xE2\x82", []api.Segment{{Text: "e\u0301", At: 0, End: 3}, {Text: "\uFFFD", At: 3, End: 5}}},
		{"xy\xF0\x90\x80", []api.Segment{{Text: "y", At: 1, End: 2}, {Text: "\uFFFD", At: 2, End: 5}}},
	} {
		s := fresh(t, 2)
		s.Write([]byte(c.in))
		l, e := s.Close()
		same(t, "Close behind", []byte(c.in), l, c.want)
		if e != api.OK {
			t.Errorf("Close behind %q: %v", c.in, e)
		}
		silent(t, s, api.ErrClosed)
	}
	// a piece of three bytes is one code point, so no limit is too low for it
	s := fresh(t, 1)
	s.Write([]byte("x\xF0\x90\x80"))
	if l, e := s.Close(); len(l) != 2 || e != api.OK {
		t.Errorf("Close behind a piece, limit 1: %v, %v", l, e)
	}
}

// P4.1: as soon as a segment is too long, those ahead of it and ErrSegment come,
// and then nothing else any more.
func TestErrSegment(t *testing.T) {
	s := fresh(t, 1)
	l, e := s.Write([]byte("xe\u0301y"))
	same(t, "Write", nil, l, []api.Segment{{Text: "x", At: 0, End: 1}})
	if e != api.ErrSegment {
		t.Errorf("Write: %v", e)
	}
	silent(t, s, api.ErrSegment)

	s = fresh(t, 2)
	for _, c := range []struct {
		in      string
		told    int
		pending int
		e       api.Errno
	}{
		{"xe", 1, 1, api.OK}, {"\u0301", 0, 2, api.OK}, {"\xCC", 0, 2, api.OK}, {"", 0, 2, api.OK},
		{"\xA3yz", 0, 0, api.ErrSegment},
	} {
		l, e := s.Write([]byte(c.in))
		if len(l) != c.told || e != c.e || s.Pending() != c.pending || s.Err() != c.e {
			t.Errorf("Write(%q): %v, %v, Pending %d, Err %v", c.in, l, e, s.Pending(), s.Err())
		}
	}
	silent(t, s, api.ErrSegment)
}

// P4.5 and R1.
func TestNilSegmenter(t *testing.T) {
	var s *Segmenter
	for range 2 {
		for _, b := range [][]byte{nil, {}, []byte("xe\u0301y"), {0xE2}} {
			if l, e := s.Write(b); len(l) != 0 || e != api.ErrArg {
				t.Errorf("Write(%q): %v, %v", b, l, e)
			}
		}
		if s.Pending() != 0 || s.Err() != api.ErrArg {
			t.Errorf("Pending %d, Err %v", s.Pending(), s.Err())
		}
		if l, e := s.Close(); len(l) != 0 || e != api.ErrArg {
			t.Errorf("Close: %v, %v", l, e)
		}
	}
}

// R2: segmenters know nothing of each other.
func TestSegmentersStandAlone(t *testing.T) {
	a, b, c := fresh(t, 8), fresh(t, 8), fresh(t, 1)
	a.Write([]byte("xe\u0301\xCC"))
	b.Write([]byte("a\u0301"))
	c.Write([]byte("e\u0301"))
	a.Close()
	l, e := b.Write([]byte("\u0323y\xCC"))
	same(t, "Write", nil, l, []api.Segment{{Text: "a\u0323\u0301", At: 0, End: 5}})
	if e != api.OK || b.Err() != api.OK || b.Pending() != 1 || c.Err() != api.ErrSegment {
		t.Errorf("%v, Err %v, Pending %d, the other's Err %v", e, b.Err(), b.Pending(), c.Err())
	}
}

// R3: a segmenter keeps copies of what it was handed, and no hold on its answers.
func TestSegmenterKeepsNothingOfOthers(t *testing.T) {
	s := fresh(t, 8)
	chunk := []byte("xye\u0301\xCC")
	first, _ := s.Write(chunk)
	clear(chunk)
	chunk = []byte("\xA3z\xE2\x82")
	second, _ := s.Write(chunk)
	clear(chunk)
	same(t, "the answer ahead", nil, first, []api.Segment{{Text: "x", At: 0, End: 1}, {Text: "y", At: 1, End: 2}})
	spoil(first)
	third, _ := s.Write([]byte("\xACw"))
	same(t, "Write", nil, second, []api.Segment{{Text: "e\u0323\u0301", At: 2, End: 7}})
	spoil(second)
	same(t, "Write", nil, third, []api.Segment{{Text: "z", At: 7, End: 8}, {Text: "\u20AC", At: 8, End: 11}})
	spoil(third)
	last, _ := s.Close()
	same(t, "Close", nil, last, []api.Segment{{Text: "w", At: 11, End: 12}})
	spoil(last)
	silent(t, s, api.ErrClosed)
}

// P5 of the whole, and rule 8 of the language: what is kept is bound by the
// limit, whatever comes, and let go of at the end.
func TestWhatIsKept(t *testing.T) {
	s := fresh(t, api.MaxSegment)
	text := []byte(strings.Repeat("x"+marked(api.MaxSegment), 100))
	for chunk := range slices.Chunk(text, 7) {
		s.Write(chunk)
		if len(s.open) > api.MaxSegment || cap(s.open) > 4*api.MaxSegment {
			t.Fatalf("%d code points in room for %d", len(s.open), cap(s.open))
		}
	}
	s.Close()
	if s.open != nil || s.decoder != nil {
		t.Error("a closed segmenter keeps what it had")
	}
	s = fresh(t, 1)
	s.Write(utf.Encode([]int32{0x65, 0x301}))
	if s.open != nil || s.decoder != nil {
		t.Error("a segmenter that told ErrSegment keeps what it had")
	}
}
