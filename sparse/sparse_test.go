package sparse

import (
	"math"
	"slices"
	"testing"
	"time"
)

// P9.1, the chapter's example, step by step.
func TestExample(t *testing.T) { eachKind(t, checks.example) }

func (of[T]) example(t *testing.T) {
	s := New[T](4)
	if !s.Add(2) || !s.Add(0) || s.Add(2) || s.Add(4) {
		t.Error("Add")
	}
	if l := s.Values(); !slices.Equal(l, []T{2, 0}) || s.Len() != 2 {
		t.Error(l, s.Len())
	}
	if v, ok := s.At(1); v != 0 || !ok {
		t.Error(v, ok)
	}
	if v, ok := s.At(0); v != 2 || !ok {
		t.Error(v, ok)
	}
	if v, ok := s.At(2); v != 0 || ok {
		t.Error(v, ok)
	}
	if s.Has(1) || !s.Has(2) || !s.Has(0) {
		t.Error("Has")
	}
	s.Clear()
	if s.Has(2) || s.Len() != 0 || len(s.Values()) != 0 {
		t.Error("Clear")
	}
}

// P9.1, every size with every number next to which something changes: what may be
// in a set hangs on the size and on what the kind holds.
func TestEverySize(t *testing.T) { eachKind(t, checks.everySize) }

func (of[T]) everySize(t *testing.T) {
	asked := edges[T]()
	for _, size := range sizes {
		s, m := New[T](size), modelOf[T](size)
		agree(t, s, m, asked)
		for range 2 { // the second time each one is there
			for _, v := range asked {
				adds(t, s, m, v)
				agree(t, s, m, asked)
			}
		}
		s.Clear()
		m.clear()
		agree(t, s, m, asked)
		for _, v := range slices.Backward(asked) {
			adds(t, s, m, v)
		}
		agree(t, s, m, asked)
	}
}

// P9.1 and P9.2, sets that are full, and emptied, and full again.
func TestFullSet(t *testing.T) { eachKind(t, checks.fullSet) }

func (of[T]) fullSet(t *testing.T) {
	for _, size := range []int{-3, 0, 1, 2, 3, 255, 256, 257, 300, 65535, 65536, 65537, 1 << 20, math.MaxInt} {
		all := numbers[T](size)
		s := New[T](size)
		for _, l := range [][]T{mixed(all), all} {
			for i, v := range l {
				if s.Has(v) || !s.Add(v) || !s.Has(v) || s.Len() != i+1 {
					t.Fatalf("size %d: Add(%d) behind %d others", size, v, i)
				}
			}
			for _, v := range append(edges[T](), all...) {
				if s.Add(v) {
					t.Fatalf("size %d, full: Add(%d)", size, v)
				}
			}
			for i, v := range l {
				if at, ok := s.At(i); at != v || !ok || !s.Has(v) {
					t.Fatalf("size %d, full: At(%d) %d, %v", size, i, at, ok)
				}
			}
			if v, ok := s.At(len(l)); v != 0 || ok || s.Len() != len(l) || !slices.Equal(s.Values(), l) {
				t.Fatalf("size %d, full: At(%d) %d, %v, Len %d", size, len(l), v, ok, s.Len())
			}
			s.Clear()
			agree(t, s, modelOf[T](size), all)
		}
	}
}

// P9.1 and P9.2, every script of six calls of Add and Clear, with all answers behind
// each of them.
func TestEveryScript(t *testing.T) { eachKind(t, checks.everyScript) }

func (of[T]) everyScript(t *testing.T) {
	const calls, size, length = 5, 3, 6
	var none T
	asked := []T{none - 1, 0, 1, 2, 3, 4}
	for script := range calls * calls * calls * calls * calls * calls {
		s, m := New[T](size), modelOf[T](size)
		for range length {
			if call := script % calls; call <= size {
				adds(t, s, m, T(call))
			} else {
				s.Clear()
				m.clear()
			}
			agree(t, s, m, asked)
			script /= calls
		}
	}
}

// P9.1 and P9.2, long scripts of all calls, with and without many a Clear.
func TestLongScripts(t *testing.T) { eachKind(t, checks.longScripts) }

func (of[T]) longScripts(t *testing.T) {
	d := dice(9)
	edge := edges[T]()
	for _, size := range []int{1, 2, 10, 200, 256, 300, 4096, 65535, 65536, 70000} {
		for _, seldom := range []int{3, 40, 1000, 9000} {
			s, m := New[T](size), modelOf[T](size)
			for range 6000 {
				v := T(d.roll(size + 1 + size/8))
				if d.roll(9) == 0 {
					v = edge[d.roll(len(edge))]
				}
				if d.roll(seldom) == 0 {
					s.Clear()
					m.clear()
				}
				if d.roll(2) == 0 {
					adds(t, s, m, v)
				}
				if s.Has(v) != m.there[v] || s.Len() != len(m.list) {
					t.Fatalf("size %d, %v: Has(%d) %v, Len %d", size, m.list, v, s.Has(v), s.Len())
				}
				i := d.roll(len(m.list)+2) - 1
				if got, ok := s.At(i); ok != (0 <= i && i < len(m.list)) || ok && got != m.list[i] || !ok && got != 0 {
					t.Fatalf("size %d, %v: At(%d) %d, %v", size, m.list, i, got, ok)
				}
				if d.roll(500) == 0 {
					agree(t, s, m, edge)
				}
			}
			agree(t, s, m, numbers[T](size))
		}
	}
}

// P9.2, Clear of an empty set, twice, and many times, and numbers that come again.
func TestEmptied(t *testing.T) { eachKind(t, checks.emptied) }

func (of[T]) emptied(t *testing.T) {
	for _, size := range []int{-1, 0, 1, 7, 300, 65536} {
		all := numbers[T](size)
		s, m := New[T](size), modelOf[T](size)
		for range 3 {
			s.Clear()
			agree(t, s, m, all)
		}
		for _, v := range mixed(all) {
			adds(t, s, m, v)
		}
		for range 3 {
			s.Clear()
			m.clear()
			agree(t, s, m, all)
		}
		for round := range 1000 {
			for k := range min(len(all), round%5) {
				v := all[(round*31+k*7919)%len(all)]
				adds(t, s, m, v)
				adds(t, s, m, v)
			}
			agree(t, s, m, all[:min(len(all), 20)])
			s.Clear()
			m.clear()
			if round%100 == 0 {
				agree(t, s, m, all)
			}
		}
	}
}

// P9.2: whatever a set had, behind a Clear it is told from a new one by no call.
func TestAsNew(t *testing.T) { eachKind(t, checks.asNew) }

func (of[T]) asNew(t *testing.T) {
	history := []T{0, 1, 2, 3, 4, 0, 2, 4, 1, 3} // some of these come, as the bits of had say
	all := numbers[T](5)
	for had := range 1 << len(history) {
		s, fresh := New[T](5), New[T](5)
		for i, v := range history {
			if i == 5 && had%3 == 0 {
				s.Clear()
			}
			if had>>i&1 == 1 {
				s.Add(v)
			}
		}
		s.Clear()
		for _, v := range []T{3, 1, 3, 5, 4, 1} {
			for _, x := range all {
				if s.Has(x) != fresh.Has(x) {
					t.Fatalf("%b: Has(%d) %v", had, x, s.Has(x))
				}
			}
			if s.Add(v) != fresh.Add(v) || !slices.Equal(s.Values(), fresh.Values()) {
				t.Fatalf("%b: Add(%d), Values %v, but of a new one %v", had, v, s.Values(), fresh.Values())
			}
		}
	}
}

// P9.2: a Clear costs the same whatever the size, and whatever the set had.
func TestEmptiedAtOnce(t *testing.T) {
	big, small := New[int](65536), New[int](1)
	for _, v := range numbers[int](65536) {
		big.Add(v)
	}
	least := func(s *Set[int]) time.Duration { // of several, since others may be at work
		least := time.Duration(math.MaxInt64)
		for range 5 {
			from := time.Now()
			for range 200000 {
				s.Clear()
				s.Add(0)
			}
			least = min(least, time.Since(from))
		}
		return least
	}
	if b, s := least(big), least(small); b > 50*s {
		t.Errorf("Clear of a set for 65536 numbers: %v, for one number: %v", b, s)
	}
}

// P9.3, R1: of a nil set every call tells nothing and changes nothing.
func TestNilSet(t *testing.T) { eachKind(t, checks.nilSet) }

func (of[T]) nilSet(t *testing.T) {
	var s *Set[T]
	for range 2 {
		for _, v := range edges[T]() {
			if s.Add(v) {
				t.Errorf("Add(%d) true", v)
			}
		}
		agree(t, s, modelOf[T](0), edges[T]())
		s.Clear()
	}
}

// P9.3, R3: Values are new memory, spare room too. What is done to them is no matter
// to the set, and what is done to the set is no matter to them.
func TestMemory(t *testing.T) { eachKind(t, checks.memory) }

func (of[T]) memory(t *testing.T) {
	for n := range 40 { // with and without spare room
		s, m := New[T](64), modelOf[T](64)
		for _, v := range mixed(numbers[T](n)) {
			adds(t, s, m, v)
		}
		first, second := s.Values(), s.Values()
		want := slices.Clone(m.list)
		_ = append(first, 50)
		spoil(first)
		if !slices.Equal(second, want) {
			t.Fatalf("two lists share memory: %v", second)
		}
		agree(t, s, m, numbers[T](64))
		adds(t, s, m, 50)
		adds(t, s, m, 51)
		agree(t, s, m, numbers[T](64))
		s.Clear()
		m.clear()
		for _, v := range []T{60, 61, 62} {
			adds(t, s, m, v)
		}
		if !slices.Equal(second, want) {
			t.Fatalf("the set and what it told share memory: %v", second)
		}
		spoil(second)
		agree(t, s, m, numbers[T](64))
	}
}

// R2: sets know nothing of each other.
func TestAlone(t *testing.T) { eachKind(t, checks.alone) }

func (of[T]) alone(t *testing.T) {
	a, b := New[T](9), New[T](7)
	inA, inB := modelOf[T](9), modelOf[T](7)
	for _, v := range []T{3, 8, 1, 7, 6, 0} {
		adds(t, a, inA, v)
		agree(t, b, inB, numbers[T](9))
		adds(t, b, inB, 8-v)
		agree(t, a, inA, numbers[T](9))
	}
	a.Clear()
	inA.clear()
	agree(t, b, inB, numbers[T](9))
	adds(t, a, inA, 5)
	agree(t, b, inB, numbers[T](9))
	agree(t, a, inA, numbers[T](9))
}
