package words

import (
	"slices"
	"strings"
	"testing"

	"trema/api"
)

// R1 and P13.1: texts of many words, and words of many segments.
func TestLarge(t *testing.T) {
	const n = 50000
	l, e := Words([]byte(strings.Repeat("\u00C9t\u00C9 ", n)), api.MaxSegment)
	if len(l) != n || e != api.OK {
		t.Fatal(len(l), e)
	}
	for i, w := range l {
		if w.Key != "e\u0301te\u0301" || w.Span != (api.Span{From: 4 * i, To: 4*i + 3, Start: 6 * i, End: 6*i + 5}) {
			t.Fatal(i, shown(l[i:i+1]))
		}
	}
	l, e = Words([]byte(strings.Repeat("A'\u00DF1.5", n)+"."), 1)
	if len(l) != 1 || e != api.OK || l[0].Span != (api.Span{From: 0, To: 6 * n, Start: 0, End: 7 * n}) || l[0].Key != strings.Repeat("a'ss1.5", n) {
		t.Fatal(len(l), e)
	}
	if l, e := Words([]byte(strings.Repeat("'", n)), 1); len(l) != 0 || e != api.OK {
		t.Fatal(len(l), e)
	}
	if l, e := Words([]byte(strings.Repeat("a.", n)), 1); len(l) != n || e != api.OK || l[n-1].Span.From != 2*n-2 {
		t.Fatal(len(l), e)
	}
}

// R1 and P13.1: runs of marks without an end, in keys and in Texts of any length.
func TestLargeTexts(t *testing.T) {
	const n = 40000
	marks := strings.Repeat("\u0301\u0323\u0345", n)
	ordered := strings.Repeat("\u0323", n) + strings.Repeat("\u0301", n) + strings.Repeat("\u03B9", n)
	if Key([]byte("\u1E0A"+marks)) != "d"+strings.Repeat("\u0323", n)+"\u0307"+strings.Repeat("\u0301", n)+strings.Repeat("\u03B9", n) {
		t.Error("Key of many marks")
	}
	if !Same([]byte("A"+marks), []byte("a"+ordered)) || Same([]byte("A"+marks), []byte("a"+ordered+"\u0301")) {
		t.Error("Same of many marks")
	}
	if l, e := Words([]byte("A b"+marks), api.MaxSegment); len(l) != 0 || e != api.ErrSegment {
		t.Error(len(l), e)
	}
	l := Join(segments("A"+marks, "'", "B"+marks, "'"+marks, "1"+marks, ".", "2"+marks))
	want := []string{"a" + ordered + "'b" + ordered, "1" + ordered + ".2" + ordered}
	if !slices.Equal(keysOf(l), want) || l[0].Span.To != 3 || l[1].Span.From != 4 || l[1].Span.To != 7 {
		t.Error("Join of many marks")
	}
	many := slices.Repeat(segments("a", ""), n)
	if l := Join(many); len(l) != n || l[n-1].Span != (api.Span{From: 2*n - 2, To: 2*n - 1, Start: 0, End: 1}) {
		t.Error(len(l))
	}
}
