package utf

import (
	"slices"
	"testing"

	"trema/api"
)

// feed hands chunks to a new decoder and closes it, and holds each answer
// against what the chapter's table says of all bytes up to there.
func feed(t *testing.T, chunks ...[]byte) {
	t.Helper()
	d := New()
	var all []byte
	var told []api.Point
	for _, chunk := range chunks {
		all = append(all, chunk...)
		told = append(told, d.Write(chunk)...)
		want, sure := reading(all)
		same(t, "so far, Write", all, told, want[:sure])
		if n := d.Pending(); n != len(all)-wide(told) || n > 3 {
			t.Fatalf("Pending behind % X: %d", all, n)
		}
	}
	told = append(told, d.Close()...)
	same(t, "Write and Close", all, told, Decode(all))
	silent(t, d)
}

// silent sees to it that nothing comes behind Close.
func silent(t *testing.T, d *Decoder) {
	t.Helper()
	for range 2 {
		if n := d.Pending(); n != 0 {
			t.Errorf("Pending behind Close: %d", n)
		}
		for _, b := range []string{"a", "\xE2", "\x82\xAC", "\x80", ""} {
			if l := d.Write([]byte(b)); len(l) != 0 || d.Pending() != 0 {
				t.Errorf("Write(%q) behind Close: %v, Pending %d", b, l, d.Pending())
			}
		}
		if l := d.Close(); len(l) != 0 {
			t.Errorf("Close behind Close: %v", l)
		}
	}
}

// chunked are texts in which each kind of piece stands at the end and in the
// midst.
var chunked = []string{
	"", "a", "\xC3", "\xC3\xA9", "\xE2\x82", "\xE2\x82\xAC", "\xF0\x90\x80", "\xF0\x9F\x98\x80",
	"\x41\xC3\xA9", "\xE2\x41", "\xC0\x80", "\xED\xA0\x80", "\xF0\x90\x80\x41", "\xF4\x90",
	"\xE2\xE2\x82\xAC", "\xF0\x90\xF0\x90\x80", "\xE2\x82\xE2\x82\xC3\xC3", "\xF0\x90\x80\xE0\xA0\xF4\x8F\xBF",
	"\xF4\x8F\xBF\xBF\xFF", "\xE0\x9F\xBF", "\xF0\x8F\xBF\xBF", "\x80\x80\x80\x80\x80",
	"a\u0301\u20AC\x00\xF1\x80\x80", "\xEF\xBB\xBF\xEF\xBF\xBD",
}

// P1.2, every cut of short texts, each chunk with an empty one ahead of it too.
func TestEveryCut(t *testing.T) {
	for _, text := range chunked {
		b := []byte(text)
		for cuts := range 1 << max(len(b)-1, 0) {
			chunks := cutAt(b, cuts)
			feed(t, chunks...)
			var spaced [][]byte
			for _, c := range chunks {
				spaced = append(spaced, nil, c, []byte{})
			}
			feed(t, spaced...)
		}
	}
}

// cutAt cuts b behind its i-th byte where the i-th bit is set.
func cutAt(b []byte, cuts int) [][]byte {
	var chunks [][]byte
	from := 0
	for i := 1; i < len(b); i++ {
		if cuts>>(i-1)&1 == 1 {
			chunks = append(chunks, b[from:i])
			from = i
		}
	}
	return append(chunks, b[from:])
}

// P1.2, all kinds of pieces on both sides of cuts.
func TestEveryEdgeAcrossCuts(t *testing.T) {
	eachOf(edges, 4, func(b []byte) {
		d := New()
		var told []api.Point
		for i := range b {
			told = append(told, d.Write(b[i:i+1])...)
			want, sure := reading(b[:i+1])
			if !slices.Equal(told, want[:sure]) || d.Pending() != i+1-wide(told) {
				t.Fatalf("told of % X: %v, Pending %d", b[:i+1], told, d.Pending())
			}
		}
		told = append(told, d.Close()...)
		same(t, "byte by byte, Write", b, told, Decode(b))
	})
}

// P1.2, a long text in chunks of one size: places go on counting.
func TestLongTextInChunks(t *testing.T) {
	b := mixed(200000)
	want, _ := reading(b)
	for _, size := range []int{1, 2, 3, 5, 64, 1021, 70000, len(b)} {
		d := New()
		var told []api.Point
		for chunk := range slices.Chunk(b, size) {
			told = append(told, d.Write(chunk)...)
			if d.Pending() > 3 {
				t.Fatalf("Pending: %d", d.Pending())
			}
		}
		told = append(told, d.Close()...)
		if !slices.Equal(told, want) {
			t.Errorf("chunks of %d tell otherwise", size)
		}
	}
}

// P1.1 and P1.2, the chapter's example, step by step.
func TestWriteTellsTheExample(t *testing.T) {
	d := New()
	if d.Pending() != 0 {
		t.Errorf("Pending of a new one: %d", d.Pending())
	}
	if l := d.Write([]byte{0xE2, 0x82}); len(l) != 0 || d.Pending() != 2 {
		t.Errorf("Write(E2 82): %v, Pending %d", l, d.Pending())
	}
	l := d.Write([]byte{0xAC})
	same(t, "Write", []byte{0xAC}, l, []api.Point{{Rune: 0x20AC, At: 0, Width: 3}})
	if l := d.Close(); len(l) != 0 {
		t.Errorf("Close with nothing kept back: %v", l)
	}
	silent(t, d)
}

// P1.1: what is kept back becomes one ill-formed piece, whole at Close.
func TestCloseTellsThePiece(t *testing.T) {
	for _, c := range []struct {
		in   string
		want api.Point
	}{
		{"\xC3", api.Point{Rune: 0xFFFD, At: 0, Width: 1}},
		{"ab\xE2\x82", api.Point{Rune: 0xFFFD, At: 2, Width: 2}},
		{"\u00E9\xF0\x90\x80", api.Point{Rune: 0xFFFD, At: 2, Width: 3}},
	} {
		d := New()
		d.Write([]byte(c.in))
		if d.Pending() != c.want.Width {
			t.Errorf("Pending behind %q: %d", c.in, d.Pending())
		}
		same(t, "Close", []byte(c.in), d.Close(), []api.Point{c.want})
		silent(t, d)
	}
	d := New()
	if l := d.Close(); len(l) != 0 {
		t.Errorf("Close of a new one: %v", l)
	}
	silent(t, d)
}

// P1.4.
func TestNilDecoder(t *testing.T) {
	var d *Decoder
	silent(t, d)
	if l := d.Write(nil); len(l) != 0 {
		t.Errorf("Write(nil): %v", l)
	}
}

// R2: decoders know nothing of each other.
func TestDecodersStandAlone(t *testing.T) {
	a, b := New(), New()
	a.Write([]byte("xy\xE2\x82"))
	b.Write([]byte("\xF0\x9F"))
	a.Close()
	same(t, "Write", nil, b.Write([]byte("\x98\x80z")), []api.Point{{Rune: 0x1F600, At: 0, Width: 4}, {Rune: 'z', At: 4, Width: 1}})
}

// R3: a decoder keeps copies of what it was handed, and no hold on its answers.
func TestDecoderKeepsNothingOfOthers(t *testing.T) {
	d := New()
	chunk := []byte("a\xE2\x82")
	first := d.Write(chunk)
	clear(chunk)
	second := d.Write([]byte("\xACb\xC3"))
	third := d.Close()
	spoil(first)
	same(t, "Write", nil, second, []api.Point{{Rune: 0x20AC, At: 1, Width: 3}, {Rune: 'b', At: 4, Width: 1}})
	spoil(second)
	same(t, "Close", nil, third, []api.Point{{Rune: 0xFFFD, At: 5, Width: 1}})
}
