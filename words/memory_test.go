package words

import (
	"slices"
	"strings"
	"testing"

	"trema/api"
	"trema/seg"
)

// R3: what is handed in is left as it is, spare room and all.
func TestLeftAsItIs(t *testing.T) {
	const behind = "\u0301a'b"
	for _, in := range []string{"", "It's 3.5 \u00C9t\u00E9s", "A\u0301\u0323 \u1E0A\u0345\u0323", "\xE2\x82A\xC3", "a'"} {
		b := []byte(in + behind)
		Key(b[:len(in)])
		Same(b[:len(in)], b[len(in):])
		Same(b[len(in):], b[:len(in)])
		Words(b[:len(in)], api.MaxSegment)
		Words(b[:len(in)], 1)
		Words(b[:len(in)], 0)
		if string(b) != in+behind {
			t.Fatalf("%+q became %+q", in+behind, b)
		}
		segs, _ := seg.Split(b, api.MaxSegment)
		want := slices.Clone(segs)
		for n := range len(segs) + 1 {
			got := Join(segs[:n])
			if !slices.Equal(got, wordsOf(want[:n])) { // what stands in the spare room is no matter
				t.Fatalf("%s: %s", listed(want[:n]), shown(got))
			}
			if !slices.Equal(segs, want) {
				t.Fatalf("%s became %s", listed(want), listed(segs))
			}
		}
	}
}

// spoil writes over all that an answer reaches.
func spoil(l []api.Word) {
	all := l[:cap(l)]
	for i := range all {
		all[i] = api.Word{Key: "spoilt", Span: api.Span{From: -7, To: -7, Start: -7, End: -7}}
	}
}

// R3: an answer is new memory, spare room too, and stays when the arguments change; and
// nothing is kept from call to call.
func TestAnswersAreNew(t *testing.T) {
	for n := range 40 { // with and without spare room
		in := strings.Repeat("a'B \u00C9 ", n) + "1.5"
		b := []byte(in)
		segs, _ := seg.Split(b, api.MaxSegment)
		want := wordsOf(segs)
		first, _ := Words(b, api.MaxSegment)
		second, _ := Words(b, api.MaxSegment)
		joined, other := Join(segs), Join(segs)
		key := Key(b)
		spoil(first)
		spoil(joined)
		clear(b)
		for i := range segs {
			segs[i] = api.Segment{Text: "spoilt", At: -7, End: -7}
		}
		if !slices.Equal(second, want) || !slices.Equal(other, want) || key != keyOf(in) {
			t.Fatalf("%+q: %s, %s, %+q", in, shown(second), shown(other), key)
		}
		if again, _ := Words([]byte(in), api.MaxSegment); !slices.Equal(again, want) {
			t.Fatalf("%+q: %s", in, shown(again))
		}
		if !Same([]byte(in), []byte(strings.ToLower(in))) || Same([]byte(in), b) {
			t.Fatalf("Same of %+q", in)
		}
	}
}

// R2: what a call answers hangs on its arguments alone, not on what was asked ahead.
func TestCallsDontMix(t *testing.T) {
	d := dice(5)
	texts := []string{"a'b 1.5 _", "A'B 1.5 _", "", "\u1E0A\u0323 \u00DF", "...", "x'", "\xFF\u00C9"}
	for range 2000 {
		text := pick(&d, texts...)
		if d.roll(3) == 0 {
			Words([]byte(text), d.roll(3)-1)
		}
		check(t, text)
		if Key([]byte(text)) != keyOf(text) {
			t.Fatalf("%+q", text)
		}
	}
}
