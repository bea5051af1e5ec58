package posting

import (
	"math"
	"slices"
	"testing"

	"trema/api"
)

// P14.1 and P14.2, lists with their bytes: the chapter's example, and the edges.
func TestLists(t *testing.T) {
	for _, c := range []struct {
		l    []api.Posting
		want string
	}{
		{nil, "\x00"},
		{list(), "\x00"},
		{list(one(0, 0)), "\x01\x00\x00\x00"},
		{list(one(1, 0)), "\x01\x01\x00\x00"},
		{list(one(0, 1)), "\x01\x00\x00\x01"},
		{list(one(3, 0, 2)), "\x01\x03\x01\x00\x01"},
		{list(one(3, 0, 2), one(5, 7)), "\x02\x03\x01\x00\x01\x01\x00\x07"},
		// neighbours differ by 1
		{list(one(0, 0), one(1, 0)), "\x02\x00\x00\x00\x00\x00\x00"},
		{list(one(0, 0, 1, 2)), "\x01\x00\x02\x00\x00\x00"},
		{list(one(4, 4, 5), one(5, 4, 5), one(6, 4, 5)), "\x03\x04\x01\x04\x00\x00\x01\x04\x00\x00\x01\x04\x00"},
		// and by as much as one group has, and by one more
		{list(one(0, 0, 128), one(128, 127)), "\x02\x00\x01\x00\x7F\x7F\x00\x7F"},
		{list(one(0, 0, 129), one(129, 128)), "\x02\x00\x01\x00\x80\x01\x80\x01\x00\x80\x01"},
		{list(one(127, 127), one(256, 128)), "\x02\x7F\x00\x7F\x80\x01\x00\x80\x01"},
		{list(one(300, 300, 601)), "\x01\xAC\x02\x01\xAC\x02\xAC\x02"},
		// at the greatest
		{list(one(most, most)), "\x01\xFF\xFF\xFF\xFF\x07\x00\xFF\xFF\xFF\xFF\x07"},
		{list(one(0, 0, most)), "\x01\x00\x01\x00\xFE\xFF\xFF\xFF\x07"},
		{list(one(0, 0), one(most, 0)), "\x02\x00\x00\x00\xFE\xFF\xFF\xFF\x07\x00\x00"},
		{list(one(most-1, most-1, most), one(most, 0)), "\x02\xFE\xFF\xFF\xFF\x07\x01\xFE\xFF\xFF\xFF\x07\x00\x00\x00\x00"},
		{list(one(1, 1<<30, 1<<30+1, most)), "\x01\x01\x02\x80\x80\x80\x80\x04\x00\xFD\xFF\xFF\xFF\x03"},
	} {
		checkList(t, c.l)
		b, e := Encode(c.l)
		if e != api.OK || string(b) != c.want {
			t.Errorf("Encode(%v): % X, %v, but should be % X", c.l, b, e, c.want)
		}
		l, e := Decode([]byte(c.want))
		if e != api.OK || !same(l, c.l) {
			t.Errorf("Decode(% X): %v, %v, but should be %v", c.want, l, e, c.l)
		}
		checkBytes(t, []byte(c.want))
		checkSpoilt(t, []byte(c.want))
	}
}

// checkSpoilt holds what is told of bytes that are nearly a list's: too few, too many,
// one of them another, one more or less, and each of their numbers with a group too
// many or in 64 bits or more.
func checkSpoilt(t *testing.T, b []byte) {
	t.Helper()
	for cut := range len(b) {
		if checkBytes(t, b[:cut]) {
			t.Fatalf("% X is a list's, and % X too", b, b[:cut])
		}
		checkBytes(t, slices.Delete(slices.Clone(b), cut, cut+1))
		for _, x := range []byte{0x00, 0x01, 0x02, 0x07, 0x08, 0x0F, 0x7F, 0x80, 0x81, 0xFE, 0xFF} {
			other := slices.Clone(b)
			other[cut] = x
			checkBytes(t, other)
			checkBytes(t, slices.Insert(slices.Clone(b), cut, x))
		}
		if b[cut] >= 0x80 {
			continue
		}
		for _, groups := range []string{
			"\x00", "\x80\x00", "\x80\x80\x80\x80\x80\x80\x80\x80\x80\x80\x80\x00", // more than need be
			"\x80\x80\x80\x10", "\x80\x80\x80\x80\x80\x80\x01", "\x80\x80\x80\x80\x80\x80\x80\x01", "\x80\x80\x80\x80\x80\x80\x80\x80\x01",
			"\x80\x80\x80\x80\x80\x80\x80\x80\x80\x01", "\xFF\xFF\xFF\xFF\xFF\xFF\xFF\xFF\x01", "\xFF\xFF\xFF\xFF\xFF\xFF\xFF\x01",
		} {
			wider := slices.Insert(slices.Clone(b), cut+1, []byte(groups)...)
			wider[cut] |= 0x80
			if checkBytes(t, wider) {
				t.Fatalf("% X is a list's, and % X too", b, wider)
			}
		}
	}
	for x := range 256 {
		if checkBytes(t, append(slices.Clone(b), byte(x))) {
			t.Fatalf("% X is a list's, and with %02X behind it too", b, x)
		}
	}
}

// P14.1, lists that aren't right, in each of the ways there are; alone, and between
// postings that are.
func TestWrongLists(t *testing.T) {
	for _, p := range []api.Posting{
		// no number
		{Doc: 5}, {Doc: 5, At: []int{}}, {Doc: 0}, {Doc: most},
		// a Doc out of its range
		one(-1, 0), one(-2, 0), one(math.MinInt, 0), one(math.MinInt+1, 0), one(-1<<31, 0), one(-1<<32, 0), one(5-1<<32, 0),
		one(most+1, 0), one(most+2, 0), one(1<<32, 0), one(1<<32+5, 0), one(1<<33-1, 0), one(1<<40, 0), one(math.MaxInt, 0), one(math.MaxInt-1, 0),
		// a number out of its range
		one(5, -1), one(5, -1, 0), one(5, math.MinInt), one(5, math.MinInt, 0), one(5, -1<<32), one(5, 3-1<<32), one(5, -2, -1),
		one(5, most+1), one(5, 0, most+1), one(5, most, most+1), one(5, 1<<32), one(5, 1<<32+3), one(5, 0, 1<<32+3), one(5, math.MaxInt), one(5, 0, math.MaxInt),
		one(5, 0, 1, 1<<40, most), one(5, 0, -1, 1), one(5, math.MaxInt, math.MinInt), one(5, math.MinInt, math.MaxInt),
		// numbers that don't rise
		one(5, 0, 0), one(5, 1, 1), one(5, 1, 0), one(5, most, most), one(5, most, 0), one(5, 0, 1, 1), one(5, 0, 2, 1), one(5, 1, 0, 2), one(5, 0, 0, 1),
		one(5, 0, 1, 2, 3, 3), one(5, 1, 2, 3, 4, 0), one(5, most-1, most, most-1),
	} {
		for _, l := range [][]api.Posting{
			list(p), list(p, p), list(one(0, 0), p), list(p, one(9, 0)), list(one(0, 0), p, one(most, 9)), list(one(4, 1, 2), p, one(6, 7)),
		} {
			wrong(t, l)
		}
	}
	for _, l := range [][]api.Posting{
		// Docs that don't rise
		list(one(0, 0), one(0, 0)), list(one(0, 0), one(0, 1)), list(one(5, 0), one(5, 1)), list(one(5, 0), one(4, 0)), list(one(most, 0), one(most, 0)), list(one(most, 0), one(0, 0)),
		list(one(1, 0), one(2, 0), one(2, 0)), list(one(1, 0), one(3, 0), one(2, 0)), list(one(2, 0), one(1, 0), one(3, 0)), list(one(1, 0), one(1, 0), one(2, 0)),
		list(one(0, 0), one(-1, 0)), list(one(0, 0), one(math.MinInt, 0)), list(one(0, 0), one(math.MaxInt, 0), one(1, 0)), list(one(most, 0), one(most+1, 0)),
		// postings of nothing
		list(api.Posting{}), list(api.Posting{}, api.Posting{}), list(one(0, 0), api.Posting{}),
	} {
		wrong(t, l)
	}
}

// wrong sees to it that a list isn't taken.
func wrong(t *testing.T, l []api.Posting) {
	t.Helper()
	if May(l) {
		t.Errorf("May(%v)", l)
	}
	if b, e := Encode(l); len(b) != 0 || e != api.ErrArg {
		t.Errorf("Encode(%v): % X, %v", l, b, e)
	}
	checkList(t, l)
}

// P14.1 and P14.2, all short lists of numbers next to which something changes.
func TestAllShortLists(t *testing.T) {
	var ats [][]int
	eachOf([]int{math.MinInt, -1, 0, 1, 2, 128, most - 1, most, most + 1, 1 << 32, math.MaxInt}, 3, func(at []int) {
		checkList(t, list(one(7, at...)))
		if len(at) < 3 {
			ats = append(ats, slices.Clone(at))
		}
	})
	docs := []int{math.MinInt, -1, 0, 1, 2, 129, most - 1, most, most + 1, 1 << 32, math.MaxInt}
	eachOf(docs, 4, func(l []int) {
		var right, wrong []api.Posting
		for i, doc := range l {
			right = append(right, one(doc, i, 200))
			wrong = append(wrong, one(doc, ats[(doc&0xFF+i)%len(ats)]...))
		}
		checkList(t, right)
		checkList(t, wrong)
	})
	for _, a := range ats {
		for _, b := range ats {
			checkList(t, list(one(0, a...), one(1, b...)))
			checkList(t, list(one(most-1, a...), one(most, b...)))
		}
	}
}

// P14.1 and P14.2, texts that are lists' and texts that look so.
func TestBytes(t *testing.T) {
	const greatest = "\xFF\xFF\xFF\xFF\x07"
	for _, c := range []struct {
		in   string
		want []api.Posting
	}{
		{"\x01\x00\x00\x00", list(one(0, 0))},
		{"\x01\x00\x00" + greatest, list(one(0, most))},
		{"\x01" + greatest + "\x00\x00", list(one(most, 0))},
		{"\x01\x00\x01\x00\xFE\xFF\xFF\xFF\x07", list(one(0, 0, most))},
		{"\x01\x00\x01\xFE\xFF\xFF\xFF\x07\x00", list(one(0, most-1, most))},
		{"\x01\x00\x02\x00\xFD\xFF\xFF\xFF\x07\x00", list(one(0, 0, most-1, most))},
		{"\x02\x00\x00\x00\xFE\xFF\xFF\xFF\x07\x00\x00", list(one(0, 0), one(most, 0))},
		{"\x02\xFE\xFF\xFF\xFF\x07\x00\x00\x00\x00\x00", list(one(most-1, 0), one(most, 0))},
		{"\x02\x00\x00" + greatest + "\x00\x00" + greatest, list(one(0, most), one(1, most))},
	} {
		if l, e := Decode([]byte(c.in)); e != api.OK || !same(l, c.want) {
			t.Errorf("Decode(% X): %v, %v, but should be %v", c.in, l, e, c.want)
		}
		checkBytes(t, []byte(c.in))
	}
	for _, in := range []string{
		// too few bytes
		"", "\x01", "\x01\x00", "\x01\x00\x00", "\x02\x00\x00\x00", "\x02\x00\x00\x00\x00\x00", "\x01\x00\x01\x00", "\x01\x00\x00\x80", "\x80", "\x01\x80", "\x01\x00\x80",
		// too many
		"\x00\x00", "\x00\x01\x00\x00\x00", "\x01\x00\x00\x00\x00", "\x01\x00\x00\x00\x80", "\x01\x00\x00\x00\x00\x00\x00", "\x00\x80", "\x00\x80\x00",
		// a group too many
		"\x80\x00", "\x81\x00\x00\x00\x00", "\x01\x80\x00\x00\x00", "\x01\x00\x80\x00\x00", "\x01\x00\x00\x80\x00", "\x01\x00\x01\x00\x80\x00", "\x02\x00\x00\x00\x80\x00\x00\x00",
		// a number above the greatest
		"\x01\x80\x80\x80\x80\x08\x00\x00", "\x01\x00\x00\x80\x80\x80\x80\x08", "\x01\x80\x80\x80\x80\x10\x00\x00", "\x01\x00\x00\x80\x80\x80\x80\x10",
		"\x01\x00\x00\x83\x80\x80\x80\x10", "\x01\x83\x80\x80\x80\x10\x00\x00",
		"\x01\xFF\xFF\xFF\xFF\xFF\xFF\xFF\xFF\xFF\x01\x00\x00", "\x01\x00\x00\xFF\xFF\xFF\xFF\xFF\xFF\xFF\xFF\xFF\x01",
		"\x01\xFF\xFF\xFF\xFF\xFF\xFF\xFF\xFF\x7F\x00\x00", "\x01\x00\x00\xFF\xFF\xFF\xFF\xFF\xFF\xFF\xFF\x7F",
		"\x01\x80\x80\x80\x80\x80\x80\x80\x80\x80\x01\x00\x00", "\x01\x00\x00\x80\x80\x80\x80\x80\x80\x80\x80\x80\x01",
		// a sum above the greatest
		"\x02" + greatest + "\x00\x00\x00\x00\x00", "\x02\x00\x00\x00" + greatest + "\x00\x00", "\x02\x01\x00\x00\xFE\xFF\xFF\xFF\x07\x00\x00",
		"\x01\x00\x01" + greatest + "\x00", "\x01\x00\x01\x00" + greatest, "\x01\x00\x01\x01\xFE\xFF\xFF\xFF\x07", "\x01\x00\x02\x00\xFE\xFF\xFF\xFF\x07\x00",
		"\x02" + greatest + "\x00\x00" + greatest + "\x00\x00", "\x01\x00\x01" + greatest + greatest,
		// a sum above 64 bits, or of their signs
		"\x02\x00\x00\x00\xFF\xFF\xFF\xFF\xFF\xFF\xFF\xFF\xFF\x01\x00\x00", "\x01\x00\x01\x05\xFF\xFF\xFF\xFF\xFF\xFF\xFF\xFF\xFF\x01",
		"\x01\x00\x01\x05\xFD\xFF\xFF\xFF\xFF\xFF\xFF\xFF\xFF\x01", "\x02\x05\x00\x00\xFD\xFF\xFF\xFF\xFF\xFF\xFF\xFF\xFF\x01\x00\x00",
		"\x02\x00\x00\x00\xFF\xFF\xFF\xFF\xFF\xFF\xFF\xFF\x7F\x00\x00", "\x01\x00\x01\x05\xFE\xFF\xFF\xFF\xFF\xFF\xFF\xFF\x7F",
		// a count that promises too much
		"\x02\x00\x00\x00", "\x7F\x00\x00\x00", "\xFF\xFF\xFF\xFF\x07\x00\x00\x00", "\x81\x80\x80\x80\x10\x00\x00\x00",
		"\x81\x80\x80\x80\x80\x80\x80\x80\x80\x01\x00\x00\x00", "\xFF\xFF\xFF\xFF\xFF\xFF\xFF\xFF\xFF\x01\x00\x00\x00", "\xFF\xFF\xFF\xFF\xFF\xFF\xFF\xFF\xFF\x01",
		"\x01\x00\x01\x00", "\x01\x00\x7F\x00\x00", "\x01\x00\x80\x80\x80\x80\x10\x00", "\x01\x00\x80\x80\x80\x80\x80\x80\x80\x80\x80\x01\x00",
		"\x01\x00\xFF\xFF\xFF\xFF\xFF\xFF\xFF\xFF\x7F\x00", "\x01\x00\xFF\xFF\xFF\xFF\xFF\xFF\xFF\xFF\xFF\x01", "\x01\x00\xFF\xFF\xFF\xFF\xFF\xFF\xFF\xFF\xFF\x01\x00",
		"\x01\x00\xFE\xFF\xFF\xFF\xFF\xFF\xFF\xFF\xFF\x01\x00", "\x01\x00\xFF\xFF\xFF\xFF\xFF\xFF\xFF\xFF\xFF\x01\x00\x00\x00\x00\x00\x00\x00\x00",
		// a count that promises too little
		"\x00\x00\x00\x00", "\x01\x00\x00\x00\x00\x00\x00", "\x01\x00\x00\x00\x00",
		// no number where one is looked for
		"\xFF\xFF\xFF\xFF\xFF\xFF\xFF\xFF\xFF\x02", "\x01\xFF\xFF\xFF\xFF\xFF\xFF\xFF\xFF\xFF\x02\x00\x00", "\x01\x00\xFF\xFF\xFF\xFF\xFF\xFF\xFF\xFF\xFF\x02\x00",
	} {
		if l, e := Decode([]byte(in)); len(l) != 0 || e != api.ErrForm {
			t.Errorf("Decode(% X): %v, %v", in, l, e)
		}
		checkBytes(t, []byte(in))
	}
	if l, e := Decode(nil); len(l) != 0 || e != api.ErrForm {
		t.Error(l, e)
	}
}

// P14.1 and P14.2, all texts of up to eight of some bytes.
func TestAllShortBytes(t *testing.T) {
	var right [9]int // how many there are of each length
	eachOf([]byte{0x00, 0x01, 0x02, 0x80, 0x81, 0xFF}, 8, func(b []byte) {
		if checkBytes(t, b) {
			right[len(b)]++
		}
	})
	// one posting of one number has four bytes at least, so that but for the empty list nothing is shorter
	if !slices.Equal(right[:5], []int{0, 1, 0, 0, 9}) || slices.Contains(right[5:], 0) {
		t.Error(right)
	}
}

// P14.1 and P14.2, all texts of up to two bytes, and of four and five with any two side
// by side or one apart.
func TestAllPairsOfBytes(t *testing.T) {
	for n := range 1 << 16 {
		x, y := byte(n), byte(n>>8)
		for _, b := range [][]byte{
			{x}, {x, y}, {1, x, y, 0}, {1, x, 0, y}, {1, 0, x, y}, {x, y, 0, 0},
			{1, x, y, 0, 0}, {1, 0, x, y, 0}, {1, 0, 0, x, y}, {1, 0, x, 0, y}, {x, y, 0, 0, 0}, {1, 0, 1, x, y}, {1, 5, 2, x, y, 0},
		} {
			checkBytes(t, b)
		}
	}
}

// P14.2, rolled lists there and back, and their bytes spoilt.
func TestRolledLists(t *testing.T) {
	d := dice(3)
	for i := range 3000 {
		l := d.right(1+d.roll(12), 1+d.roll(12))
		if !mayOf(l) {
			t.Fatalf("%v isn't right", l)
		}
		checkList(t, l)
		if b := encodeOf(l); i%5 == 0 && len(b) < 120 {
			checkSpoilt(t, b)
		}
		if len(l) == 0 {
			continue
		}
		m := copied(l) // one number another
		p := &m[d.roll(len(m))]
		change := []int{-1, 1, -1 << 31, 1 << 31, 1 << 32, -d.roll(300), d.roll(300)}[d.roll(7)]
		if d.roll(2) == 0 {
			p.Doc += change
		} else {
			p.At[d.roll(len(p.At))] += change
		}
		checkList(t, m)
		k := d.roll(len(l)) // two of them the other way round, or one twice
		m = copied(l)
		m[k], m[0] = m[0], m[k]
		checkList(t, m)
		checkList(t, append(m, copied(l)[k]))
		if at := l[k].At; len(at) > 1 {
			slices.Reverse(at)
			checkList(t, l)
		}
	}
}

// P14.1, rolled bytes, most of them nearly a list's.
func TestRolledBytes(t *testing.T) {
	d := dice(4)
	right := 0
	for range 300000 {
		var b []byte
		for range d.roll(12) {
			n := uint64(d.roll(4))
			if d.roll(6) == 0 {
				n = d.any()
			}
			b = append(b, bytesOf(n)...)
		}
		for range d.roll(3) - 1 {
			b = append(b, byte(d.roll(256)))
		}
		if checkBytes(t, b) {
			right++
		}
	}
	if right < 1000 {
		t.Error(right)
	}
}
