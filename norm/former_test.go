package norm

import (
	"slices"
	"testing"
)

// feed hands pieces to a new former and closes it, and holds each answer against
// the normal form of all that was handed in up to there.
func feed(t *testing.T, pieces ...[]int32) {
	t.Helper()
	f := New()
	var all, told []int32
	for _, piece := range pieces {
		all = append(all, piece...)
		told = append(told, f.Write(piece)...)
		want := formed(all)
		up := sure(want)
		same(t, "so far, Write", all, told, want[:up])
		if f.Pending() != len(want)-up {
			t.Fatalf("Pending behind %X: %d, but should be %d", all, f.Pending(), len(want)-up)
		}
	}
	told = append(told, f.Close()...)
	same(t, "Write and Close", all, told, Normal(all))
	silent(t, f)
}

// silent sees to it that nothing comes behind Close.
func silent(t *testing.T, f *Former) {
	t.Helper()
	for range 2 {
		if n := f.Pending(); n != 0 {
			t.Errorf("Pending behind Close: %d", n)
		}
		for _, piece := range [][]int32{nil, {}, {0x61}, {0x301}, {0xE9, 0x323}, {-1}} {
			if l := f.Write(piece); len(l) != 0 || f.Pending() != 0 {
				t.Errorf("Write(%X) behind Close: %X, Pending %d", piece, l, f.Pending())
			}
		}
		if l := f.Close(); len(l) != 0 {
			t.Errorf("Close behind Close: %X", l)
		}
	}
}

// cutAt cuts l behind its i-th number where the i-th bit is set.
func cutAt(l []int32, cuts int) [][]int32 {
	var pieces [][]int32
	from := 0
	for i := 1; i < len(l); i++ {
		if cuts>>(i-1)&1 == 1 {
			pieces = append(pieces, l[from:i])
			from = i
		}
	}
	return append(pieces, l[from:])
}

// P3.3, every cut of short lists, with empty pieces between too.
func TestEveryCut(t *testing.T) {
	eachOf([]int32{0x61, 0x1161, 0xE9, 0x1E69, 0x301, 0x308, 0x323, 0x344, -1, 0xD800}, 4, func(l []int32) {
		for cuts := range 1 << max(len(l)-1, 0) {
			pieces := cutAt(l, cuts)
			feed(t, pieces...)
			var spaced [][]int32
			for _, piece := range pieces {
				spaced = append(spaced, nil, piece, []int32{})
			}
			feed(t, spaced...)
		}
	})
}

// P3.3, all kinds, number by number.
func TestNumberByNumber(t *testing.T) {
	eachOf(kinds, 3, func(l []int32) { feed(t, cutAt(l, 7)...) })
}

// P3.3, a long list in pieces of one size.
func TestLongListInPieces(t *testing.T) {
	l := mixed(60000)
	want := formed(l)
	for _, size := range []int{1, 2, 3, 7, 64, 1021, 50000, len(l)} {
		f := New()
		var told []int32
		for piece := range slices.Chunk(l, size) {
			told = append(told, f.Write(piece)...)
		}
		told = append(told, f.Close()...)
		if !slices.Equal(told, want) {
			t.Errorf("pieces of %d tell otherwise", size)
		}
	}
}

// P3.3, one long run of marks, mark by mark: it is kept back till a starter
// comes, or Close.
func TestLongRunInPieces(t *testing.T) {
	l, want := run(200000)
	for _, last := range []bool{true, false} {
		f := New()
		for i, r := range l {
			if told := f.Write([]int32{r}); len(told) != 0 || f.Pending() != i+1 {
				t.Fatalf("Write of the %d-th mark: %X, Pending %d", i, told, f.Pending())
			}
		}
		if last {
			same(t, "Close", nil, f.Close(), want)
			silent(t, f)
			continue
		}
		same(t, "Write", nil, f.Write([]int32{0x61}), append(slices.Clone(want), 0x61))
		if n := f.Pending(); n != 0 {
			t.Errorf("Pending behind a starter: %d", n)
		}
	}
}

// P3.1 and P3.3, the chapter's example, step by step.
func TestWriteTellsTheExample(t *testing.T) {
	f := New()
	if f.Pending() != 0 {
		t.Errorf("Pending of a new one: %d", f.Pending())
	}
	for _, c := range []struct {
		in, want []int32
		pending  int
	}{
		{[]int32{0x65, 0x301}, []int32{0x65}, 1},
		{[]int32{0x62}, []int32{0x301, 0x62}, 0},
	} {
		same(t, "Write", c.in, f.Write(c.in), c.want)
		if f.Pending() != c.pending {
			t.Errorf("Pending behind %X: %d", c.in, f.Pending())
		}
	}
	if l := f.Close(); len(l) != 0 {
		t.Errorf("Close with nothing kept back: %X", l)
	}
	silent(t, f)
}

// P3.1: what is kept back is counted as the normal form has it, and goes up to
// the last starter, one that trails or that is no code point too.
func TestWriteTellsUpToTheLastStarter(t *testing.T) {
	for _, c := range []struct {
		in, want, rest []int32
	}{
		{nil, nil, nil},
		{[]int32{0xE9}, []int32{0x65}, []int32{0x301}},
		{[]int32{0x344}, nil, []int32{0x308, 0x301}},
		{[]int32{0x301, 0x323}, nil, []int32{0x323, 0x301}},
		{[]int32{0x1E69, 0x344, 0x338}, []int32{0x73}, []int32{0x338, 0x323, 0x307, 0x308, 0x301}},
		{[]int32{0xAC01}, []int32{0x1100, 0x1161, 0x11A8}, nil},
		{[]int32{0x1100, 0x1161}, []int32{0x1100, 0x1161}, nil},
		{[]int32{0x301, 0x323, 0x11A8, 0x301}, []int32{0x323, 0x301, 0x11A8}, []int32{0x301}},
		{[]int32{0x301, 0x323, -1}, []int32{0x323, 0x301, -1}, nil},
		{[]int32{0xD800, 0x301, 0x323}, []int32{0xD800}, []int32{0x323, 0x301}},
		{[]int32{0x61, 0x301, 0x323, 0x62, 0x301, 0x323}, []int32{0x61, 0x323, 0x301, 0x62}, []int32{0x323, 0x301}},
	} {
		f := New()
		same(t, "Write", c.in, f.Write(c.in), c.want)
		if f.Pending() != len(c.rest) {
			t.Errorf("Pending behind %X: %d, but should be %d", c.in, f.Pending(), len(c.rest))
		}
		same(t, "Close behind", c.in, f.Close(), c.rest)
		silent(t, f)
	}
	f := New()
	if l := f.Close(); len(l) != 0 {
		t.Errorf("Close of a new one: %X", l)
	}
	silent(t, f)
}

// P3.4.
func TestNilFormer(t *testing.T) {
	var f *Former
	silent(t, f)
}

// R2: formers know nothing of each other.
func TestFormersStandAlone(t *testing.T) {
	a, b := New(), New()
	a.Write([]int32{0x61, 0x301})
	b.Write([]int32{0x62, 0x323, 0x308})
	a.Close()
	same(t, "Write", nil, b.Write([]int32{0x338, 0x63}), []int32{0x338, 0x323, 0x308, 0x63})
}

// R3: a former keeps copies of what it was handed, and no hold on its answers.
func TestFormerKeepsNothingOfOthers(t *testing.T) {
	f := New()
	piece := []int32{0x308, 0x323}
	if l := f.Write(piece); len(l) != 0 {
		t.Fatalf("Write of marks: %X", l)
	}
	spoil(piece)
	piece = []int32{0x61, 0x301, 0x323, 0x316}
	first := f.Write(piece)
	spoil(piece)
	kept := slices.Clone(first)
	second := f.Write([]int32{0x338, 0x62, 0x345, 0x301})
	same(t, "the answer ahead", nil, first, kept)
	spoil(first)
	third := f.Write([]int32{0x63, 0x345, 0x301})
	same(t, "Write", nil, second, []int32{0x338, 0x323, 0x316, 0x301, 0x62})
	spoil(second)
	same(t, "Write", nil, third, []int32{0x301, 0x345, 0x63})
	spoil(third)
	last := f.Close()
	same(t, "Close", nil, last, []int32{0x301, 0x345})
	spoil(last)
	silent(t, f)
}
