package posting

import (
	"bytes"
	"testing"

	"trema/api"
)

// P14.2, lists of many postings, and of many numbers.
func TestLarge(t *testing.T) {
	const n = 500000
	var many []api.Posting
	var numbers []int
	for i := range n {
		many = append(many, one(i*4001, i, most-i))
		numbers = append(numbers, i*i%3000+i*4000)
	}
	for _, l := range [][]api.Posting{many, list(one(0, numbers...)), append(list(one(0, numbers...)), many[1:]...)} {
		b, e := Encode(l)
		if e != api.OK || !bytes.Equal(b, encodeOf(l)) {
			t.Fatal(len(b), e)
		}
		back, e := Decode(b)
		if e != api.OK || !same(back, l) {
			t.Fatal(len(back), e)
		}
		for _, spoilt := range [][]byte{b[:len(b)-1], b[1:], append(b, 0), append(b, 0x80)} {
			if back, e := Decode(spoilt); len(back) != 0 || e != api.ErrForm {
				t.Fatal(len(back), e)
			}
		}
	}
	last := append(many, one(most))
	if _, e := Encode(last); e != api.ErrArg || May(last) {
		t.Error(e)
	}
	numbers[n-1] = numbers[n-2]
	if _, e := Encode(list(one(0, numbers...))); e != api.ErrArg {
		t.Error(e)
	}
}

// R1 and P14.1: counts that promise more than is there, ahead of many bytes, cost no
// more than what is there.
func TestLargeCounts(t *testing.T) {
	const n = 3000000
	rest := make([]byte, n)
	for _, count := range []uint64{n + 1, n/3 + 1, 1 << 31, 1 << 32, 1 << 40, 1<<63 - 1, 1 << 63, 1<<64 - 1} {
		for _, front := range [][]byte{bytesOf(count), append([]byte{1, 0}, bytesOf(count)...), append([]byte{1}, bytesOf(count)...)} {
			for _, b := range [][]byte{append(front, rest...), append(front, rest[:4]...), front} {
				if l, e := Decode(b); len(l) != 0 || e != api.ErrForm {
					t.Fatal(count, len(l), e)
				}
			}
		}
	}
	for _, b := range [][]byte{append(bytesOf(n/3), rest...), append(append([]byte{1, 0}, bytesOf(n-1)...), rest...)} {
		if l, e := Decode(b); e != api.OK || !same(l, decoded(b)) {
			t.Fatal(len(l), e)
		}
	}
	full := bytes.Repeat([]byte{0xFF}, n)
	if m, width := Read(full); m != 0 || width != 0 {
		t.Error(m, width)
	}
	if l, e := Decode(full); len(l) != 0 || e != api.ErrForm {
		t.Error(len(l), e)
	}
}

// decoded is the list by the chapter's words.
func decoded(b []byte) []api.Posting {
	l, _ := guess(b)
	return l
}
