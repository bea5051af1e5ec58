package posting

import (
	"bytes"
	"slices"
	"testing"

	"trema/api"
)

// P14.3: what is handed in is left as it is, spare room and all.
func TestLeftAsItIs(t *testing.T) {
	const behind = "\xA5\x5A\xA5\x5A\xA5\x5A\xA5\x5A\xA5\x5A\xA5\x5A"
	for _, in := range []string{"", "x", "\x00", "\x80", "\x80\x00", "\x02\x03\x01\x00\x01\x01\x00\x07", "\x01\x00\x00", "\xFF\xFF\xFF\xFF\xFF\xFF\xFF\xFF\xFF\x01"} {
		b := []byte(in + behind)
		for _, n := range []uint64{0, 127, 128, 1 << 31, 1<<64 - 1} {
			if got := Number(b[:len(in)], n); string(got) != in+string(bytesOf(n)) {
				t.Fatalf("Number(% X, %d): % X", in, n, got)
			}
		}
		Read(b[:len(in)])
		Decode(b[:len(in)])
		if string(b) != in+behind {
			t.Fatalf("% X became % X", in+behind, b)
		}
	}
	for _, l := range [][]api.Posting{
		nil, list(one(3, 0, 2), one(5, 7)), list(one(5, 7), one(3, 2, 0)), list(one(-1, 0)), list(one(0)), list(one(1, 2, 3), one(1, 1, 1), one(0, -4)),
	} {
		roomy := make([]api.Posting, 0, len(l)+2)
		for _, p := range l {
			at := append(make([]int, 0, len(p.At)+2), p.At...)
			copy(at[len(at):cap(at)], []int{-77, -78})
			roomy = append(roomy, api.Posting{Doc: p.Doc, At: at})
		}
		copy(roomy[len(l):cap(roomy)], list(one(-79, -80), one(-81, -82)))
		May(roomy)
		Encode(roomy)
		if !same(roomy, l) || !same(roomy[len(l):cap(roomy)], list(one(-79, -80), one(-81, -82))) {
			t.Fatalf("%v became %v", l, roomy[:cap(roomy)])
		}
		for i, p := range roomy {
			if !slices.Equal(p.At[len(p.At):cap(p.At)], []int{-77, -78}) {
				t.Fatalf("%v: room of %d became %v", l, i, p.At[:cap(p.At)])
			}
		}
	}
}

// spoil writes over all that a list reaches.
func spoil(l []api.Posting) {
	for _, p := range l {
		at := p.At[:cap(p.At)]
		for i := range at {
			at[i] = -7
		}
	}
	all := l[:cap(l)]
	for i := range all {
		all[i] = one(-7, -7)
	}
}

// spoilBytes writes over bytes, spare room too.
func spoilBytes(b []byte) {
	b = b[:cap(b)]
	for i := range b {
		b[i] = 0xA5
	}
}

// P14.3 and R3: an answer is new memory, spare room too, and stays when the arguments
// and other answers change.
func TestAnswersAreNew(t *testing.T) {
	d := dice(5)
	for range 2000 {
		l := d.right(9, 9)
		want, text := copied(l), encodeOf(l)
		b, _ := Encode(l)
		other, _ := Encode(l)
		spoil(l)
		spoilBytes(other)
		if !bytes.Equal(b, text) {
			t.Fatalf("Encode(%v) became % X", want, b)
		}
		back, _ := Decode(b)
		again, _ := Decode(b)
		spoilBytes(b)
		spoil(again)
		if !same(back, want) {
			t.Fatalf("Decode(% X) became %v", text, back)
		}
		for i, p := range back { // no two lists of an answer share any
			spoil([]api.Posting{p})
			if !same(back[i+1:], want[i+1:]) {
				t.Fatalf("Decode(% X): with %d another the rest is %v", text, i, back[i+1:])
			}
		}
		if back, e := Decode(text); e != api.OK || !same(back, want) {
			t.Fatalf("Decode(% X): %v, %v", text, back, e)
		}
	}
}

// P14.3 and R3, Number's answers: two of the same bytes, which have room or none.
func TestNumbersAreNew(t *testing.T) {
	for size := range 40 {
		for room := range 24 {
			b := make([]byte, size, size+room)
			for i := range b {
				b[i] = byte(i)
			}
			want := slices.Clone(b)
			first, second := Number(b, 300), Number(b, 1<<63)
			third := Number(first, 5)
			spoilBytes(b)
			if !bytes.Equal(first, append(slices.Clone(want), bytesOf(300)...)) || !bytes.Equal(second, append(slices.Clone(want), bytesOf(1<<63)...)) {
				t.Fatalf("%d, %d: % X, % X", size, room, first, second)
			}
			spoilBytes(first)
			if !bytes.Equal(third, append(append(slices.Clone(want), bytesOf(300)...), 5)) {
				t.Fatalf("%d, %d: % X", size, room, third)
			}
		}
	}
}

// R2: what a call answers hangs on its arguments alone, not on what was asked ahead.
func TestCallsDontMix(t *testing.T) {
	d := dice(6)
	texts := []string{"", "\x00", "\x00\x00", "\x02\x03\x01\x00\x01\x01\x00\x07", "\x02\x03\x01\x00\x01\x01\x00", "\x80\x00", "\x01\x00\x7F\x00"}
	lists := [][]api.Posting{nil, list(one(0, 0)), list(one(0)), list(one(3, 0, 2), one(5, 7)), list(one(5, 7), one(3, 0))}
	for range 5000 {
		switch d.roll(3) {
		case 0:
			checkBytes(t, []byte(texts[d.roll(len(texts))]))
		case 1:
			checkList(t, lists[d.roll(len(lists))])
		case 2:
			checkNumber(t, d.any())
		}
	}
}
