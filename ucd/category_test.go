package ucd

import (
	"math"
	"slices"
	"testing"

	"trema/api"
)

// P2.1, the numbers that the constants are.
func TestConstants(t *testing.T) {
	if got := [...]int{L, M, N, P, S, Z, C}; got != [...]int{1, 2, 3, 4, 5, 6, 7} {
		t.Error(got)
	}
}

// P2.1, the categories of all numbers.
func TestCategory(t *testing.T) {
	said := categoriesSaid()
	for _, r := range all() {
		want, ok := said[r]
		if !ok {
			want = C
		}
		if got := Category(r); got != want {
			t.Fatalf("Category(%X): %d, but should be %d", r, got, want)
		}
	}
}

// P2.1, the chapter's examples, edges, and numbers that are no code points.
func TestCategoryExamples(t *testing.T) {
	for r, want := range map[int32]int{
		0x41: L, 0x300: M, 0: C, 0x1F: C, 0x20: Z, 0x21: P, 0x24: S, 0x30: N, 0x7F: C, 0xAD: C, 0xD7: S, 0xF7: S, 0xF8: L, 0x2AF: L, 0x2B0: C,
		0x387: P, 0x482: C, 0x1FBC: L, 0x1FBD: C, 0xD7A3: L, 0xD7A4: C, 0xD800: C, 0xDFFF: C, 0xFFFC: C, 0xFFFD: S, 0x1F64F: S, 0x1F650: C,
		-1: C, -0x41: C, 0x10FFFF: C, 0x110000: C, 0x110041: C, math.MinInt32: C, math.MaxInt32: C,
	} {
		if got := Category(r); got != want {
			t.Errorf("Category(%X): %d, but should be %d", r, got, want)
		}
	}
}

// P2.1, the ranges are the least list that has just the numbers of the category.
func TestRanges(t *testing.T) {
	said := categoriesSaid()
	lists := map[int][]api.Range{}
	for r := int32(0); r <= api.MaxRune; r++ {
		category, ok := said[r]
		if !ok {
			category = C
		}
		l := lists[category]
		if n := len(l); n > 0 && l[n-1].Hi == r-1 {
			l[n-1].Hi = r
			continue
		}
		lists[category] = append(l, api.Range{Lo: r, Hi: r})
	}
	for category := L; category <= C; category++ {
		if got := Ranges(category); !slices.Equal(got, lists[category]) {
			t.Errorf("Ranges(%d): %X, but should be %X", category, got, lists[category])
		}
	}
}

// P2.1, the ends of the ranges of C, and a category's whole list.
func TestRangesExamples(t *testing.T) {
	want := []api.Range{{Lo: 0x20, Hi: 0x20}, {Lo: 0xA0, Hi: 0xA0}, {Lo: 0x2000, Hi: 0x200A}, {Lo: 0x2028, Hi: 0x2029}, {Lo: 0x3000, Hi: 0x3000}}
	if got := Ranges(Z); !slices.Equal(got, want) {
		t.Errorf("Ranges(Z): %X", got)
	}
	l := Ranges(C)
	if len(l) == 0 || l[0] != (api.Range{Lo: 0, Hi: 0x1F}) || l[len(l)-1] != (api.Range{Lo: 0x1F650, Hi: 0x10FFFF}) {
		t.Errorf("Ranges(C): %X", l)
	}
	if !slices.Contains(l, api.Range{Lo: 0xD7A4, Hi: 0xFF0F}) {
		t.Errorf("Ranges(C) hasn't the surrogates: %X", l)
	}
}

// P2.1, numbers that are no categories.
func TestRangesOfNone(t *testing.T) {
	for _, category := range []int{0, -1, 8, 9, 255, 256 + L, 1<<32 + L, 1<<32 + C, math.MinInt, math.MinInt32, math.MaxInt32, math.MaxInt, 'L'} {
		if l := Ranges(category); len(l) != 0 {
			t.Errorf("Ranges(%d): %X", category, l)
		}
	}
}

// P2.1, the seven names.
func TestNamed(t *testing.T) {
	for name, want := range map[string]int{"L": L, "M": M, "N": N, "P": P, "S": S, "Z": Z, "C": C} {
		if got, ok := Named(name); got != want || !ok {
			t.Errorf("Named(%q): %d, %v", name, got, ok)
		}
	}
}

// P2.1 and R5, texts that name none.
func TestNamedOfOthers(t *testing.T) {
	texts := []string{"", "Lu", "LL", "LM", "LMNPSZC", "l", " L", "L ", "L\x00", "\x00L", "L\u0301", "\u013B", "\uFF2C", "\xFF", "1", "letter"}
	for b := range 256 {
		texts = append(texts, string([]byte{byte(b)}))
	}
	for _, text := range texts {
		if len(text) == 1 && slices.Contains([]byte("LMNPSZC"), text[0]) {
			continue
		}
		if got, ok := Named(text); got != 0 || ok {
			t.Errorf("Named(%q): %d, %v", text, got, ok)
		}
	}
}
