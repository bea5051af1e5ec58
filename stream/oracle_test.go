package stream

import (
	"fmt"
	"slices"
	"strings"
	"testing"
	"unicode/utf8"

	"trema/api"
	"trema/norm"
	"trema/pike"
	"trema/prog"
	"trema/ucd"
	"trema/utf"
)

// cut are a text's segments by DOC.md's words: a text is cut at its first code point and
// at each that opens.
func cut(b []byte) []api.Segment {
	var places []int
	for _, p := range utf.Decode(b) {
		first := ucd.Decompose(p.Rune)[0]
		if p.At == 0 || ucd.Class(first) == 0 && !ucd.Trailing(first) {
			places = append(places, p.At)
		}
	}
	var l []api.Segment
	for i, at := range places {
		end := len(b)
		if i+1 < len(places) {
			end = places[i+1]
		}
		l = append(l, api.Segment{Text: norm.Text(b[at:end]), At: at, End: end})
	}
	return l
}

func long(s api.Segment) int { return utf8.RuneCountInString(s.Text) }

// bad is the place of the first segment that is longer than the limit, or how many there
// are.
func bad(l []api.Segment, limit int) int {
	for i, s := range l {
		if long(s) > limit {
			return i
		}
	}
	return len(l)
}

// spanOf is a span with its bytes by DOC.md's words.
func spanOf(l []api.Segment, from, to int) api.Span {
	s := api.Span{From: from, To: to}
	if from < len(l) {
		s.Start = l[from].At
	} else if len(l) > 0 { // the text's length
		s.Start = l[len(l)-1].End
	}
	s.End = s.Start
	if to > from {
		s.End = l[to-1].End
	}
	return s
}

// whole are the spans LL of a text, by layer 10.
func whole(p []api.Instr, text []byte) []api.Span {
	l := cut(text)
	texts := make([]string, len(l))
	for i, s := range l {
		texts[i] = s.Text
	}
	spans, _ := pike.All(p, texts)
	for i, s := range spans {
		spans[i] = spanOf(l, s.From, s.To)
	}
	return spans
}

// model is a stream by the chapter's words, one segment after the other, that keeps all it
// was handed.
type model struct {
	p        []api.Instr
	c        Config
	bytes    []byte
	segments []api.Segment // that have come
	base     int
	open     int // how long the segment is that isn't whole
	untold   []api.Span
	err      api.Errno
	closed   bool
}

func newModel(p []api.Instr, c Config) *model {
	m := &model{p: p, c: c}
	m.decide(false)
	return m
}

func (m *model) decide(final bool) {
	for m.base <= len(m.segments) {
		var window []string
		for _, s := range m.segments[m.base:] {
			window = append(window, s.Text)
		}
		e, found, open, _ := pike.Longest(m.p, window, 0, m.base == 0, final)
		if open {
			return
		}
		if found {
			m.untold = append(m.untold, spanOf(m.segments, m.base, m.base+e))
		}
		if found && e > 0 {
			m.base += e
		} else {
			m.base++
		}
	}
}

// come lets the next segments come, and then an error, if the segmenter answers one.
func (m *model) come(l []api.Segment, e api.Errno) {
	for _, s := range l[len(m.segments):] {
		m.segments = append(m.segments, s)
		m.decide(false)
		if len(m.segments)-m.base >= m.c.Window {
			m.err = api.ErrWindow
			return
		}
	}
	m.err = e
}

func (m *model) write(b []byte) ([]api.Span, api.Errno) {
	if m.err != api.OK {
		return nil, m.err
	}
	if m.closed {
		return nil, api.ErrClosed
	}
	m.bytes = append(m.bytes, b...)
	sure := 0
	for _, p := range utf.New().Write(m.bytes) {
		sure += p.Width
	}
	l := cut(m.bytes[:sure])
	e := api.OK
	if n := bad(l, m.c.Segment); n < len(l) {
		l, e = l[:n], api.ErrSegment
	} else if n > 0 {
		m.open = long(l[n-1])
		l = l[:n-1]
	}
	m.come(l, e)
	return m.tell(), m.err
}

func (m *model) close() ([]api.Span, api.Errno) {
	if m.err != api.OK {
		return nil, m.err
	}
	if m.closed {
		return nil, api.ErrClosed
	}
	l := cut(m.bytes)
	e := api.OK
	if n := bad(l, m.c.Segment); n < len(l) {
		l, e = l[:n], api.ErrSegment
	}
	m.come(l, e)
	if m.err == api.OK {
		m.decide(true)
		m.closed = true
	}
	return m.tell(), m.err
}

func (m *model) tell() []api.Span {
	l := m.untold
	m.untold = nil
	return l
}

func (m *model) held() int {
	if m.err != api.OK || m.closed {
		return 0
	}
	return max(0, len(m.segments)-m.base)
}

func (m *model) points() int {
	if m.err != api.OK || m.closed {
		return 0
	}
	n := m.open
	for i := m.base; i < len(m.segments); i++ {
		n += long(m.segments[i])
	}
	return n
}

// watched is a stream that is looked at behind each call.
type watched struct {
	t       *testing.T
	pattern string
	p       []api.Instr
	c       Config
	s       *Stream
	m       *model
	told    []api.Span
}

// of is the program of a pattern.
func of(t *testing.T, pattern string) []api.Instr {
	t.Helper()
	p, place, e := prog.Pattern([]byte(pattern))
	if e != api.OK {
		t.Fatalf("a test's own pattern %q: %v at %d", pattern, e, place)
	}
	return p
}

func watch(t *testing.T, pattern string, c Config) *watched {
	t.Helper()
	p := of(t, pattern)
	s, place, e := New([]byte(pattern), c)
	if s == nil || place != 0 || e != api.OK {
		t.Fatalf("New(%q, %v): %v, %d, %v", pattern, c, s, place, e)
	}
	w := &watched{t: t, pattern: pattern, p: p, c: c, s: s, m: newModel(p, c)}
	w.look("New")
	return w
}

// look holds P12.4 and what is told of a stream between calls.
func (w *watched) look(call string) {
	w.t.Helper()
	s, m := w.s, w.m
	if s.Held() != m.held() || s.Points() != m.points() || s.Err() != m.err {
		w.fail(call, fmt.Sprintf("Held %d, Points %d, Err %v, but should be %d, %d, %v", s.Held(), s.Points(), s.Err(), m.held(), m.points(), m.err))
	}
	if s.Held() < 0 || s.Held() >= w.c.Window || s.Points() > w.c.Segment*(w.c.Window+1) {
		w.fail(call, fmt.Sprintf("Held %d, Points %d", s.Held(), s.Points()))
	}
	if n := s.States(); n > w.c.Room || n < min(1, w.c.Room) {
		w.fail(call, fmt.Sprintf("States %d", n))
	}
}

func (w *watched) fail(call, what string) {
	w.t.Helper()
	w.t.Fatalf("%q %v: %s, of %+q in all: %s", w.pattern, w.c, call, w.m.bytes, what)
}

// same holds what a call answered against what it should.
func (w *watched) same(call string, l []api.Span, e api.Errno, want []api.Span, bad api.Errno) {
	w.t.Helper()
	if e != bad || !slices.Equal(l, want) {
		w.fail(call, fmt.Sprintf("%s, %v, but should be %s, %v", shown(l), e, shown(want), bad))
	}
	w.told = append(w.told, l...)
	w.look(call)
}

func (w *watched) write(b []byte) api.Errno {
	w.t.Helper()
	l, e := w.s.Write(b)
	want, bad := w.m.write(b)
	w.same(fmt.Sprintf("Write(%+q)", b), l, e, want, bad)
	return e
}

func (w *watched) close() api.Errno {
	w.t.Helper()
	l, e := w.s.Close()
	want, bad := w.m.close()
	w.same("Close", l, e, want, bad)
	return e
}

// feed hands in a text in chunks, closes, calls on, and holds P12.2; the error is the one
// that ended it.
func (w *watched) feed(chunks ...[]byte) api.Errno {
	w.t.Helper()
	end := api.OK
	for _, b := range chunks {
		if e := w.write(b); e != api.OK {
			end = e
			break
		}
	}
	if end == api.OK {
		end = w.close()
	}
	for _, b := range []string{"", "ab", "\xE2", "e\u0301", strings.Repeat("\u0301", api.MaxSegment+1)} {
		w.write([]byte(b))
	}
	w.close()
	w.write([]byte("a"))
	all := slices.Concat(chunks...)
	l := whole(w.p, all)
	if end != api.OK {
		if len(w.told) > len(l) {
			w.fail("all", fmt.Sprintf("%s, but the spans are %s", shown(w.told), shown(l)))
		}
		l = l[:len(w.told)]
	}
	if !slices.Equal(w.told, l) {
		w.fail("all", fmt.Sprintf("%s, but the spans are %s", shown(w.told), shown(l)))
	}
	return end
}

// shown is the short form of spans: From-To:Start-End.
func shown(l []api.Span) string {
	var parts []string
	for _, s := range l {
		parts = append(parts, fmt.Sprintf("%d-%d:%d-%d", s.From, s.To, s.Start, s.End))
	}
	return "[" + strings.Join(parts, " ") + "]"
}

// spans are spans of their short form.
func spans(t *testing.T, form string) []api.Span {
	t.Helper()
	var l []api.Span
	for _, x := range strings.Fields(form) {
		var s api.Span
		if n, e := fmt.Sscanf(x, "%d-%d:%d-%d", &s.From, &s.To, &s.Start, &s.End); n != 4 || e != nil {
			t.Fatal("a test's own form", form)
		}
		l = append(l, s)
	}
	return l
}

// cutAt cuts b behind its i-th byte where the i-th bit is set.
func cutAt(b []byte, cuts int) [][]byte {
	var chunks [][]byte
	from := 0
	for i := 1; i < len(b); i++ {
		if cuts>>(i-1)&1 == 1 {
			chunks = append(chunks, b[from:i])
			from = i
		}
	}
	return append(chunks, b[from:])
}

// bytewise are chunks of one byte each.
func bytewise(b []byte) [][]byte { return slices.Collect(slices.Chunk(b, 1)) }

// dice are numbers without an order that can be seen, the same at every run.
type dice uint64

func (d *dice) roll(n int) int {
	*d = *d*6364136223846793005 + 1442695040888963407
	return int(uint64(*d)>>33) % n
}

func pick[T any](d *dice, l ...T) T { return l[d.roll(len(l))] }

// cuts cuts b anywhere, some chunks of no bytes among them.
func (d *dice) cuts(b []byte) [][]byte {
	most := 1 + d.roll(12)
	var chunks [][]byte
	for len(b) > 0 {
		n := min(len(b), d.roll(most+1))
		chunks = append(chunks, b[:n])
		b = b[n:]
	}
	return chunks
}
