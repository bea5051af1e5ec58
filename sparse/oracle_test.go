package sparse

import (
	"math"
	"slices"
	"testing"
)

// Kinds of the tests' own.
type (
	ordinal int
	label   int32
	letter  uint8
	slot    uint16
)

// checks are the tests that hold for each kind of integer alike.
type checks interface {
	name() string
	example(*testing.T)
	everySize(*testing.T)
	fullSet(*testing.T)
	everyScript(*testing.T)
	longScripts(*testing.T)
	emptied(*testing.T)
	asNew(*testing.T)
	nilSet(*testing.T)
	memory(*testing.T)
	alone(*testing.T)
}

// of is a kind of integer, by its name.
type of[T Number] string

func (k of[T]) name() string { return string(k) }

// eachKind runs a test for each kind of integer.
func eachKind(t *testing.T, f func(checks, *testing.T)) {
	for _, k := range []checks{
		of[int]("int"), of[int32]("int32"), of[uint8]("uint8"), of[uint16]("uint16"),
		of[ordinal]("ordinal"), of[label]("label"), of[letter]("letter"), of[slot]("slot"),
	} {
		t.Run(k.name(), func(t *testing.T) { f(k, t) })
	}
}

// model is what the chapter's words say of a set, kept as plainly as can be.
type model[T Number] struct {
	size  int64
	list  []T
	there map[T]bool
}

func modelOf[T Number](size int) *model[T] {
	m := &model[T]{size: int64(size), there: map[T]bool{}}
	if size < 0 {
		m.size = 0
	}
	if size > 65536 {
		m.size = 65536
	}
	return m
}

func (m *model[T]) add(v T) bool {
	if int64(v) < 0 || int64(v) >= m.size || m.there[v] {
		return false
	}
	m.there[v] = true
	m.list = append(m.list, v)
	return true
}

func (m *model[T]) at(i int) (T, bool) {
	for place, v := range m.list {
		if place == i {
			return v, true
		}
	}
	return 0, false
}

func (m *model[T]) clear() {
	m.list, m.there = nil, map[T]bool{}
}

// agree holds all that a set tells against its model. What Values told is written
// over then, since that must be no matter to the set.
func agree[T Number](t *testing.T, s *Set[T], m *model[T], asked []T) {
	t.Helper()
	n := len(m.list)
	if s.Len() != n {
		t.Fatalf("size %d: Len %d, but should be %d", m.size, s.Len(), n)
	}
	for _, v := range asked {
		if s.Has(v) != m.there[v] {
			t.Fatalf("size %d, %v: Has(%d) %v", m.size, m.list, v, s.Has(v))
		}
	}
	for _, i := range []int{math.MinInt, -1 << 32, -65536, -2, -1, 0, 1, 2, n / 2, n - 2, n - 1, n, n + 1, 256, 65535, 65536, 1 << 32, math.MaxInt} {
		v, ok := s.At(i)
		if want, there := m.at(i); v != want || ok != there {
			t.Fatalf("size %d, %v: At(%d) %d, %v", m.size, m.list, i, v, ok)
		}
	}
	l := s.Values()
	if !slices.Equal(l, m.list) {
		t.Fatalf("size %d: Values %v, but should be %v", m.size, l, m.list)
	}
	spoil(l)
}

// adds hands a number to a set and to its model.
func adds[T Number](t *testing.T, s *Set[T], m *model[T], v T) {
	t.Helper()
	if got, want := s.Add(v), m.add(v); got != want {
		t.Fatalf("size %d, %v: Add(%d) %v", m.size, m.list, v, got)
	}
}

// spoil writes over a list, spare room and all, with numbers that may be in a set.
func spoil[T Number](l []T) {
	l = l[:cap(l)]
	for i := range l {
		l[i] = 1
	}
}

// sizes are those at which something changes, for one kind of integer or another.
var sizes = []int{
	math.MinInt, math.MinInt32, -65536, -1, 0, 1, 2, 3, 4, 127, 128, 129, 254, 255, 256, 257, 300, 32768,
	65534, 65535, 65536, 65537, 65538, 1 << 17, 1 << 31, 1 << 32, 1<<32 + 3, math.MaxInt - 1, math.MaxInt,
}

// edges are the numbers next to which something changes, as far as the kind holds
// them: those at a size and below it, and others that look like these when bits of
// them are left out.
func edges[T Number]() []T {
	var l []T
	for _, n := range []int64{
		0, 1, 1 << 8, 1 << 16, 1 << 32, -1 << 8, -1 << 16, -1 << 32,
		2, 127, 128, 254, 255, 257, 299, 300, 32767, 32768, 65534, 65535, 65537, 1<<17 - 1,
		1<<31 - 2, 1<<31 - 1, 1 << 31, 1<<32 - 1, 1<<32 + 1, math.MaxInt64 - 1, math.MaxInt64,
		-1, -2, -255, -65535, -1<<31 - 1, -1 << 31, 1 - 1<<31, 1 - 1<<32, math.MinInt64, math.MinInt64 + 1,
	} {
		if int64(T(n)) == n {
			l = append(l, T(n))
		}
	}
	return l
}

// numbers are all of a kind that a set of that size is for, rising.
func numbers[T Number](size int) []T {
	var l []T
	for n := int64(0); n < modelOf[T](size).size && int64(T(n)) == n; n++ {
		l = append(l, T(n))
	}
	return l
}

// mixed are the same numbers in another order.
func mixed[T Number](l []T) []T {
	m := make([]T, len(l))
	for i := range l {
		m[i] = l[i*7919%len(l)] // a prime that divides no size
	}
	return m
}

// dice are numbers without an order that can be seen, the same at every run.
type dice uint64

func (d *dice) roll(n int) int {
	*d = *d*6364136223846793005 + 1442695040888963407
	return int(uint64(*d)>>33) % n
}
