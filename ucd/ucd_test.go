package ucd

import (
	"math"
	"slices"
	"testing"

	"trema/api"
)

// P2.1, the classes of all numbers.
func TestClass(t *testing.T) {
	said := classesSaid()
	for _, r := range all() {
		if got := Class(r); got != said[r] {
			t.Fatalf("Class(%X): %d, but should be %d", r, got, said[r])
		}
	}
}

// P2.1, what trails, of all numbers.
func TestTrailing(t *testing.T) {
	said := trailingSaid()
	for _, r := range all() {
		if got := Trailing(r); got != said[r] {
			t.Fatalf("Trailing(%X): %v", r, got)
		}
	}
}

// P2.1, what each number decomposes to, and R5 where it doesn't.
func TestPair(t *testing.T) {
	said := pairsSaid()
	for _, r := range all() {
		var want [2]int32
		n := copy(want[:], said[r])
		if a, b, got := Pair(r); a != want[0] || b != want[1] || got != n {
			t.Fatalf("Pair(%X): %X %X, %d, but should be %X, %d", r, a, b, got, want, n)
		}
	}
}

// P2.1, the full decompositions of all numbers.
func TestDecompose(t *testing.T) {
	said := pairsSaid()
	for _, r := range all() {
		if got, want := Decompose(r), full(said, r); !slices.Equal(got, want) {
			t.Fatalf("Decompose(%X): %X, but should be %X", r, got, want)
		}
	}
}

// P2.1, at which numbers segments begin.
func TestOpens(t *testing.T) {
	pairs, classes, trailing := pairsSaid(), classesSaid(), trailingSaid()
	for _, r := range all() {
		first := full(pairs, r)[0]
		if got, want := Opens(r), classes[first] == 0 && !trailing[first]; got != want {
			t.Fatalf("Opens(%X): %v", r, got)
		}
	}
}

// P2.1, the chapter's examples, and edges of its ranges.
func TestExamples(t *testing.T) {
	for r, want := range map[int32]int{0x301: 230, 0x323: 220, 0x41: 0, 0x2FF: 0, 0x300: 230, 0x34F: 0, 0x357: 230, 0x358: 0, 0x338: 1, 0x345: 240, 0x309A: 8, 0x309B: 0} {
		if got := Class(r); got != want {
			t.Errorf("Class(%X): %d", r, got)
		}
	}
	for r, want := range map[int32][3]int32{
		0xC9: {0x45, 0x301, 2}, 0x212B: {0xC5, 0, 1}, 0x41: {0, 0, 0},
		0xC0: {0x41, 0x300, 2}, 0xC6: {0, 0, 0}, 0xFF: {0x79, 0x308, 2}, 0x100: {0x41, 0x304, 2}, 0x17E: {0x7A, 0x30C, 2}, 0x17F: {0, 0, 0},
		0x344: {0x308, 0x301, 2}, 0x30D1: {0x30CF, 0x309A, 2},
		0xAC00: {0x1100, 0x1161, 2}, 0xAC01: {0xAC00, 0x11A8, 2}, 0xAC1C: {0x1100, 0x1162, 2}, 0xAE4C: {0x1101, 0x1161, 2}, 0xD7A3: {0xD788, 0x11C2, 2}, 0xD7A4: {0, 0, 0},
	} {
		if a, b, n := Pair(r); [3]int32{a, b, int32(n)} != want {
			t.Errorf("Pair(%X): %X %X, %d", r, a, b, n)
		}
	}
	for r, want := range map[int32][]int32{0x212B: {0x41, 0x30A}, 0x1E69: {0x73, 0x323, 0x307}, 0xAC01: {0x1100, 0x1161, 0x11A8}, 0x1F71: {0x3B1, 0x301}, 0x1D5: {0x55, 0x308, 0x304}} {
		if got := Decompose(r); !slices.Equal(got, want) {
			t.Errorf("Decompose(%X): %X", r, got)
		}
	}
	for r, want := range map[int32]bool{0x41: true, 0xAC00: true, 0x301: false, 0x1161: false, 0x1100: true, 0x340: false, 0x344: false, 0x11C2: false, 0x11C3: true} {
		if got := Opens(r); got != want {
			t.Errorf("Opens(%X): %v", r, got)
		}
	}
}

// P2.2, nothing in a full decomposition decomposes, and it is short.
func TestToTheBottom(t *testing.T) {
	for _, r := range all() {
		l := Decompose(r)
		if len(l) < 1 || len(l) > 3 {
			t.Fatalf("Decompose(%X): %X", r, l)
		}
		for _, part := range l {
			if _, _, n := Pair(part); n != 0 {
				t.Fatalf("Decompose(%X): %X, and %X decomposes", r, l, part)
			}
			if !slices.Equal(Decompose(part), []int32{part}) {
				t.Fatalf("Decompose(%X): %X", part, Decompose(part))
			}
		}
	}
}

// P2.2, a segment begins at most at the front of a full decomposition.
func TestNothingOpensBehind(t *testing.T) {
	for _, r := range all() {
		l := Decompose(r)
		if Opens(r) != Opens(l[0]) {
			t.Fatalf("Opens(%X): %v, but of %X otherwise", r, Opens(r), l[0])
		}
		for _, part := range l[1:] {
			if Opens(l[0]) && Opens(part) {
				t.Fatalf("Decompose(%X): %X, and %X opens", r, l, part)
			}
		}
	}
}

// P2.1, foldings of all numbers.
func TestFold(t *testing.T) {
	said := foldsSaid()
	for _, r := range all() {
		want, ok := said[r]
		if !ok {
			want = []int32{r}
		}
		if got := Fold(r); !slices.Equal(got, want) {
			t.Fatalf("Fold(%X): %X, but should be %X", r, got, want)
		}
	}
}

// P2.1, the chapter's examples, the numbers that it excepts, and what lies beside
// its ranges.
func TestFoldExamples(t *testing.T) {
	for r, want := range map[int32][]int32{
		0x41: {0x61}, 0xDF: {0x73, 0x73}, 0x40: {0x40}, 0x5A: {0x7A}, 0x5B: {0x5B}, 0xD7: {0xD7}, 0xDE: {0xFE},
		0x3A1: {0x3C1}, 0x3A2: {0x3A2}, 0x3A3: {0x3C3}, 0x3C2: {0x3C3}, 0x3AA: {0x3AA}, 0x400: {0x450}, 0x40F: {0x45F}, 0x410: {0x430}, 0x430: {0x430},
		0x12E: {0x12F}, 0x12F: {0x12F}, 0x130: {0x69, 0x307}, 0x131: {0x131}, 0x138: {0x138}, 0x139: {0x13A}, 0x13A: {0x13A}, 0x147: {0x148}, 0x149: {0x149},
		0x176: {0x177}, 0x178: {0xFF}, 0x179: {0x17A}, 0x17D: {0x17E}, 0x17F: {0x73}, 0x180: {0x180}, 0x1E94: {0x1E95}, 0x1E96: {0x1E96}, 0x1E9E: {0x73, 0x73},
		-1: {-1}, -0x41: {-0x41}, 0xD800: {0xD800}, 0x110041: {0x110041}, math.MinInt32: {math.MinInt32}, math.MaxInt32: {math.MaxInt32},
	} {
		if got := Fold(r); !slices.Equal(got, want) {
			t.Errorf("Fold(%X): %X, but should be %X", r, got, want)
		}
	}
}

// P2.3.
func TestFoldedOnce(t *testing.T) {
	for _, r := range all() {
		for _, part := range Fold(r) {
			if again := Fold(part); !slices.Equal(again, []int32{part}) {
				t.Fatalf("Fold(%X) has %X, which is folded to %X", r, part, again)
			}
		}
	}
}

// R3: answers are new memory, their spare room too.
func TestAnswersAreNew(t *testing.T) {
	for _, call := range []func(int32) []int32{Decompose, Fold} {
		for _, r := range []int32{0x41, 0xDF, 0x130, 0x61, 0x1E69, 0x212B, 0xAC01, -1} {
			first, second := call(r), call(r)
			want := slices.Clone(second)
			spoil(first, -7)
			if !slices.Equal(second, want) || !slices.Equal(call(r), want) {
				t.Errorf("the answers of %X share memory", r)
			}
		}
	}
	for category := L; category <= C; category++ {
		first, second := Ranges(category), Ranges(category)
		want := slices.Clone(second)
		spoil(first, api.Range{Lo: -7, Hi: -7})
		if !slices.Equal(second, want) || !slices.Equal(Ranges(category), want) {
			t.Errorf("the answers of Ranges(%d) share memory", category)
		}
	}
}

// spoil writes over all that an answer reaches.
func spoil[T any](l []T, with T) {
	l = l[:cap(l)]
	for i := range l {
		l[i] = with
	}
}
