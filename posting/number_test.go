package posting

import (
	"bytes"
	"math"
	"testing"
)

// P14.1 and P14.2, the bytes of numbers of one to ten groups, at the ends of each.
func TestNumbers(t *testing.T) {
	for _, c := range []struct {
		n    uint64
		want string
	}{
		{0, "\x00"}, {1, "\x01"}, {2, "\x02"}, {63, "\x3F"}, {64, "\x40"}, {126, "\x7E"}, {127, "\x7F"},
		{128, "\x80\x01"}, {129, "\x81\x01"}, {255, "\xFF\x01"}, {256, "\x80\x02"}, {300, "\xAC\x02"}, {16383, "\xFF\x7F"},
		{16384, "\x80\x80\x01"}, {65535, "\xFF\xFF\x03"}, {65536, "\x80\x80\x04"}, {2097151, "\xFF\xFF\x7F"},
		{2097152, "\x80\x80\x80\x01"}, {0xABCDEF, "\xEF\x9B\xAF\x05"}, {268435455, "\xFF\xFF\xFF\x7F"},
		{268435456, "\x80\x80\x80\x80\x01"}, {1<<31 - 1, "\xFF\xFF\xFF\xFF\x07"}, {1 << 31, "\x80\x80\x80\x80\x08"},
		{1<<32 - 1, "\xFF\xFF\xFF\xFF\x0F"}, {1 << 32, "\x80\x80\x80\x80\x10"}, {1<<35 - 1, "\xFF\xFF\xFF\xFF\x7F"},
		{1 << 35, "\x80\x80\x80\x80\x80\x01"}, {1<<42 - 1, "\xFF\xFF\xFF\xFF\xFF\x7F"},
		{1 << 42, "\x80\x80\x80\x80\x80\x80\x01"}, {1<<49 - 1, "\xFF\xFF\xFF\xFF\xFF\xFF\x7F"},
		{1 << 49, "\x80\x80\x80\x80\x80\x80\x80\x01"}, {1<<56 - 1, "\xFF\xFF\xFF\xFF\xFF\xFF\xFF\x7F"},
		{1 << 56, "\x80\x80\x80\x80\x80\x80\x80\x80\x01"}, {1<<63 - 1, "\xFF\xFF\xFF\xFF\xFF\xFF\xFF\xFF\x7F"},
		{1 << 63, "\x80\x80\x80\x80\x80\x80\x80\x80\x80\x01"}, {1<<63 + 1, "\x81\x80\x80\x80\x80\x80\x80\x80\x80\x01"},
		{math.MaxUint64 - 1, "\xFE\xFF\xFF\xFF\xFF\xFF\xFF\xFF\xFF\x01"}, {math.MaxUint64, "\xFF\xFF\xFF\xFF\xFF\xFF\xFF\xFF\xFF\x01"},
	} {
		checkNumber(t, c.n)
		if got := Number(nil, c.n); string(got) != c.want {
			t.Errorf("Number(none, %d): % X, but should be % X", c.n, got, c.want)
		}
		if n, width := Read([]byte(c.want)); n != c.n || width != len(c.want) {
			t.Errorf("Read(% X): %d, %d, but should be %d, %d", c.want, n, width, c.n, len(c.want))
		}
		for cut := range len(c.want) { // too few bytes
			if n, width := Read([]byte(c.want)[:cut]); n != 0 || width != 0 {
				t.Errorf("Read(% X): %d, %d", c.want[:cut], n, width)
			}
		}
		if len(c.want) < 10 { // a group more than need be
			wider := []byte(c.want + "\x00")
			wider[len(c.want)-1] |= 0x80
			if n, width := Read(wider); n != 0 || width != 0 {
				t.Errorf("Read(% X): %d, %d", wider, n, width)
			}
		}
	}
}

// checkNumber holds Number and Read of a number against the chapter's words, alone,
// behind other bytes, and ahead of others.
func checkNumber(t *testing.T, n uint64) {
	t.Helper()
	want := bytesOf(n)
	for _, front := range []string{"", "x", "\x80", "\x00\xFF\x80"} {
		got := Number([]byte(front), n)
		if string(got) != front+string(want) {
			t.Fatalf("Number(% X, %d): % X, but should be % X behind the first", front, n, got, want)
		}
	}
	for _, end := range []string{"", "\x00", "\x01", "\x7F", "\x80", "\xFF", "\x80\x80\x80\x80\x80\x80\x80\x80\x80\x80"} {
		if m, width := Read([]byte(string(want) + end)); m != n || width != len(want) {
			t.Fatalf("Read(% X % X): %d, %d, but should be %d, %d", want, end, m, width, n, len(want))
		}
	}
}

// P14.1, bytes at whose front no number's stand.
func TestNoNumber(t *testing.T) {
	for _, in := range []string{
		// too few bytes
		"", "\x80", "\x81", "\xFF", "\x80\x80", "\xFF\xFF", "\x80\x81\x82", "\xFF\xFF\xFF\xFF\xFF\xFF\xFF\xFF\xFF",
		"\x80\x80\x80\x80\x80\x80\x80\x80\x80",
		// more groups than need be
		"\x80\x00", "\x81\x00", "\xFF\x00", "\x80\x80\x00", "\x80\x81\x00", "\xFF\xFF\x00", "\xFF\xFF\xFF\xFF\x00",
		"\x80\x00\x01", "\x81\x80\x80\x00\x7F",
		"\x80\x80\x80\x80\x80\x80\x80\x80\x80\x00", "\xFF\xFF\xFF\xFF\xFF\xFF\xFF\xFF\xFF\x00",
		// more than 64 bits
		"\x80\x80\x80\x80\x80\x80\x80\x80\x80\x02", "\xFF\xFF\xFF\xFF\xFF\xFF\xFF\xFF\xFF\x02", "\xFF\xFF\xFF\xFF\xFF\xFF\xFF\xFF\xFF\x03",
		"\x80\x80\x80\x80\x80\x80\x80\x80\x80\x40", "\xFF\xFF\xFF\xFF\xFF\xFF\xFF\xFF\xFF\x7F",
		"\x80\x80\x80\x80\x80\x80\x80\x80\x80\x80\x01", "\x81\x80\x80\x80\x80\x80\x80\x80\x80\x81\x01",
		"\xFF\xFF\xFF\xFF\xFF\xFF\xFF\xFF\xFF\xFF\x01", "\xFF\xFF\xFF\xFF\xFF\xFF\xFF\xFF\xFF\x81\x00",
		"\x80\x80\x80\x80\x80\x80\x80\x80\x80\x80\x80\x80\x80\x80\x80\x80\x80\x80\x80\x01",
		// both, or too few and too many
		"\x80\x80\x80\x80\x80\x80\x80\x80\x80\x80\x00", "\x80\x80\x80\x80\x80\x80\x80\x80\x80\x80", "\xFF\xFF\xFF\xFF\xFF\xFF\xFF\xFF\xFF\x81",
	} {
		for _, end := range []string{"", "\x80", "\x80\x80"} {
			if in+end == "" {
				continue
			}
			if n, width := Read([]byte(in + end)); n != 0 || width != 0 {
				t.Errorf("Read(% X): %d, %d", in+end, n, width)
			}
		}
	}
	if n, width := Read(nil); n != 0 || width != 0 {
		t.Error(n, width)
	}
	if n, width := Read([]byte{}); n != 0 || width != 0 {
		t.Error(n, width)
	}
}

// P14.2, all numbers up to some 300,000, those next to all powers of two, and rolled ones.
func TestManyNumbers(t *testing.T) {
	for n := range uint64(300000) {
		checkNumber(t, n)
	}
	for power := range 64 {
		for k := range uint64(7) {
			checkNumber(t, 1<<power+k-3) // round the ends of 64 bits too
		}
	}
	d := dice(1)
	for range 200000 {
		checkNumber(t, d.any())
	}
}

// P14.2, numbers one behind the other.
func TestNumbersInARow(t *testing.T) {
	d := dice(2)
	for range 2000 {
		var all []byte
		var numbers []uint64
		for range d.roll(20) {
			n := d.any()
			numbers, all = append(numbers, n), Number(all, n)
		}
		for rest := all; len(numbers) > 0; numbers = numbers[1:] {
			n, width := Read(rest)
			if n != numbers[0] || width != len(bytesOf(n)) {
				t.Fatalf("Read(% X): %d, %d, but should be %d", rest, n, width, numbers[0])
			}
			rest = rest[width:]
			if len(numbers) == 1 && len(rest) > 0 {
				t.Fatalf("% X behind all", rest)
			}
		}
	}
}

// P14.1 and P14.2, all texts of up to three bytes: what is read is written so, and what
// isn't read is no number's.
func TestReadOfAllShortBytes(t *testing.T) {
	for n := range 1 << 24 {
		for _, b := range [][]byte{{byte(n)}, {byte(n), byte(n >> 8)}, {byte(n), byte(n >> 8), byte(n >> 16)}} {
			if n>>(8*len(b)) > 0 {
				continue // shorter texts just once
			}
			m, width := Read(b)
			if want, w := readOf(b); m != want || width != w {
				t.Fatalf("Read(% X): %d, %d, but should be %d, %d", b, m, width, want, w)
			}
		}
	}
}

// P14.1, all short texts of some bytes behind each number of groups, so that the last
// group of 64 bits stands at each of their places.
func TestReadOfLongBytes(t *testing.T) {
	ends := []byte{0x00, 0x01, 0x02, 0x03, 0x40, 0x7F, 0x80, 0x81, 0x82, 0xFF}
	for _, fill := range []byte{0x80, 0x81, 0xC0, 0xFF} {
		for count := range 12 {
			front := bytes.Repeat([]byte{fill}, count)
			eachOf(ends, 3, func(end []byte) {
				b := append(append([]byte(nil), front...), end...)
				n, width := Read(b)
				if want, w := readOf(b); n != want || width != w {
					t.Fatalf("Read(% X): %d, %d, but should be %d, %d", b, n, width, want, w)
				}
			})
			for last := range 256 {
				b := append(append([]byte(nil), front...), byte(last))
				n, width := Read(b)
				if want, w := readOf(b); n != want || width != w {
					t.Fatalf("Read(% X): %d, %d, but should be %d, %d", b, n, width, want, w)
				}
			}
		}
	}
}
