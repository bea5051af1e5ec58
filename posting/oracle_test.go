package posting

import (
	"bytes"
	"fmt"
	"math/bits"
	"slices"
	"testing"

	"trema/api"
)

// most is the greatest Doc and number of a right list.
const most = 2147483647

// bytesOf are a number's bytes by the chapter's words.
func bytesOf(n uint64) []byte {
	var b []byte
	for n/128 > 0 {
		b = append(b, byte(n%128)+128)
		n /= 128
	}
	return append(b, byte(n))
}

// readOf is the number at the front by the chapter's words: the one whose bytes are
// those up to the first that is below 128.
func readOf(b []byte) (uint64, int) {
	width := 1 + slices.IndexFunc(b, func(x byte) bool { return x < 128 })
	if width == 0 || width > 10 {
		return 0, 0
	}
	sum, weight := uint64(0), uint64(1)
	for _, x := range b[:width] {
		over, part := bits.Mul64(uint64(x%128), weight)
		next, carry := bits.Add64(sum, part, 0)
		if over > 0 || carry > 0 {
			return 0, 0
		}
		sum, weight = next, weight*128
	}
	if !bytes.Equal(bytesOf(sum), b[:width]) {
		return 0, 0
	}
	return sum, width
}

// risesOf says whether numbers are right by the chapter's words.
func risesOf(l []int) bool {
	for i, n := range l {
		if n < 0 || n > most || slices.ContainsFunc(l[:i], func(m int) bool { return m >= n }) {
			return false
		}
	}
	return true
}

// mayOf says whether a list is right by the chapter's words.
func mayOf(l []api.Posting) bool {
	var docs []int
	for _, p := range l {
		docs = append(docs, p.Doc)
		if len(p.At) < 1 || !risesOf(p.At) {
			return false
		}
	}
	return risesOf(docs)
}

// encodeOf are a right list's bytes by the chapter's words.
func encodeOf(l []api.Posting) []byte {
	numbers := []int{len(l)}
	for i, p := range l {
		if i == 0 {
			numbers = append(numbers, p.Doc)
		} else {
			numbers = append(numbers, p.Doc-l[i-1].Doc-1)
		}
		numbers = append(numbers, len(p.At)-1, p.At[0])
		for k := 1; k < len(p.At); k++ {
			numbers = append(numbers, p.At[k]-p.At[k-1]-1)
		}
	}
	var b []byte
	for _, n := range numbers {
		b = append(b, bytesOf(uint64(n))...)
	}
	return b
}

// decodeOf is the right list with those bytes, if there is one: the only list that
// they could be is tried.
func decodeOf(b []byte) ([]api.Posting, bool) {
	l, ok := guess(b)
	if !ok || !mayOf(l) || !bytes.Equal(encodeOf(l), b) {
		return nil, false
	}
	return l, true
}

// guess is the list that bytes could be, if they are any.
func guess(b []byte) ([]api.Posting, bool) {
	var numbers []int
	for len(b) > 0 {
		n, width := readOf(b)
		if width == 0 || n > most {
			return nil, false
		}
		numbers, b = append(numbers, int(n)), b[width:]
	}
	if len(numbers) == 0 {
		return nil, false
	}
	var l []api.Posting
	for numbers = numbers[1:]; len(numbers) >= 3; {
		doc, count := numbers[0], numbers[1]+1
		numbers = numbers[2:]
		if count > len(numbers) {
			return nil, false
		}
		if len(l) > 0 {
			doc += l[len(l)-1].Doc + 1
		}
		at := slices.Clone(numbers[:count])
		for i := 1; i < count; i++ {
			at[i] += at[i-1] + 1
		}
		l = append(l, api.Posting{Doc: doc, At: at})
		numbers = numbers[count:]
	}
	return l, true
}

// same says whether two lists are the same, nil or empty.
func same(a, b []api.Posting) bool {
	return slices.EqualFunc(a, b, func(p, q api.Posting) bool { return p.Doc == q.Doc && slices.Equal(p.At, q.At) })
}

// copied is a list in memory of its own.
func copied(l []api.Posting) []api.Posting {
	m := make([]api.Posting, len(l))
	for i, p := range l {
		m[i] = api.Posting{Doc: p.Doc, At: slices.Clone(p.At)}
	}
	return m
}

// one is a posting.
func one(doc int, at ...int) api.Posting {
	return api.Posting{Doc: doc, At: at}
}

// list is a list.
func list(l ...api.Posting) []api.Posting {
	return l
}

// checkList holds all that is told of a list against the chapter's words.
func checkList(t *testing.T, l []api.Posting) {
	t.Helper()
	right := mayOf(l)
	if May(l) != right {
		t.Fatalf("May(%v): %v", l, !right)
	}
	b, e := Encode(l)
	if !right {
		if len(b) != 0 || e != api.ErrArg {
			t.Fatalf("Encode(%v): % X, %v, but should be ErrArg", l, b, e)
		}
		return
	}
	if want := encodeOf(l); e != api.OK || !bytes.Equal(b, want) {
		t.Fatalf("Encode(%v): % X, %v, but should be % X", l, b, e, want)
	}
	if back, e := Decode(b); e != api.OK || !same(back, l) {
		t.Fatalf("Decode(% X): %v, %v, but should be %v", b, back, e, l)
	}
}

// checkBytes holds what is told of bytes against the chapter's words, and says whether
// they are a list's.
func checkBytes(t *testing.T, b []byte) bool {
	t.Helper()
	n, width := Read(b)
	if m, w := readOf(b); n != m || width != w {
		t.Fatalf("Read(% X): %d, %d, but should be %d, %d", b, n, width, m, w)
	}
	l, e := Decode(b)
	want, right := decodeOf(b)
	if !right {
		if len(l) != 0 || e != api.ErrForm {
			t.Fatalf("Decode(% X): %v, %v, but should be ErrForm", b, l, e)
		}
		return false
	}
	if e != api.OK || !same(l, want) {
		t.Fatalf("Decode(% X): %v, %v, but should be %v", b, l, e, want)
	}
	if again, e := Encode(l); e != api.OK || !bytes.Equal(again, b) {
		t.Fatalf("Encode(%v): % X, %v, but should be % X", l, again, e, b)
	}
	return true
}

// eachOf calls f with all lists of up to most of these things. f may not keep the list.
func eachOf[T any](things []T, most int, f func([]T)) {
	l := make([]T, 0, most)
	var further func()
	further = func() {
		f(l)
		if len(l) == most {
			return
		}
		for _, x := range things {
			l = append(l, x)
			further()
			l = l[:len(l)-1]
		}
	}
	further()
}

// dice are numbers without an order that can be seen, the same at every run.
type dice uint64

func (d *dice) roll(n int) int {
	*d = *d*6364136223846793005 + 1442695040888963407
	return int(uint64(*d)>>33) % n
}

// any is a number of 64 bits, small and large ones alike often.
func (d *dice) any() uint64 {
	n := uint64(d.roll(1<<31))<<33 ^ uint64(d.roll(1<<31))<<16 ^ uint64(d.roll(1<<31))
	return n >> d.roll(64)
}

// rising are numbers that rise, as many at most, often neighbours, often far from one another.
func (d *dice) rising(count int) []int {
	var l []int
	next := 0
	for range count {
		next += d.roll(1 << (d.roll(4) * d.roll(9)))
		if next > most {
			break
		}
		l = append(l, next)
		next++
	}
	if len(l) > 0 && d.roll(9) == 0 && l[len(l)-1] < most {
		l = append(l, most)
	}
	return l
}

// right is a right list.
func (d *dice) right(count, numbers int) []api.Posting {
	var l []api.Posting
	for _, doc := range d.rising(d.roll(count + 1)) {
		l = append(l, api.Posting{Doc: doc, At: d.rising(1 + d.roll(numbers))})
	}
	return l
}

// hexed is how bytes are told.
func hexed(b []byte) string {
	return fmt.Sprintf("% X", b)
}
