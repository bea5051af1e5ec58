package words

import (
	"slices"
	"strings"
	"testing"

	"trema/api"
	"trema/norm"
	"trema/seg"
)

// spellings are equivalent pieces, of one segment or several, in each row.
var spellings = [][]string{
	{"a"}, {"B"}, {"1"}, {"_"}, {"'"}, {"\u2019"}, {"\u00B7"}, {"."}, {","}, {" "}, {"-"}, {"\u00DF"}, {"\u1E0A"}, {"\u03C2"},
	{"e\u0301", "\u00E9", "e\u0341"},
	{"E\u0301", "\u00C9"},
	{"a\u0323\u0302\u0301", "a\u0302\u0323\u0301", "a\u0302\u0301\u0323", "\u1EA1\u0302\u0301", "\u00E2\u0323\u0301", "\u00E2\u0301\u0323", "\u1EA5\u0323"},
	{"s\u0323\u0307", "s\u0307\u0323", "\u1E61\u0323", "\u1E63\u0307", "\u1E69"},
	{"A\u030A", "\u00C5", "\u212B"},
	{"\u03A9", "\u2126"}, {"K", "\u212A"},
	{"I\u0307", "\u0130"},
	{"\u1E0A\u0323\u0301", "\u1E0A\u0301\u0323"},
	{"\u03B1\u0301\u0345", "\u1FB3\u0301", "\u03AC\u0345", "\u1F71\u0345", "\u03B1\u0345\u0301"},
	{"\u1100\u1161\u11A8", "\uAC00\u11A8", "\uAC01"},
	{"1\u0323\u0301", "1\u0301\u0323"},
	{"_\u0308\u0301", "_\u0344"},
	{"'\u0323\u0301", "'\u0301\u0323"},
	{".\u0308\u0301", ".\u0344"},
	{"=\u0338", "\u2260"},
	{"\uFFFD", "\xFF", "\xE2\x82", "\xF0\x90\x80", "\xC3"},
	{"\u0344\u0323", "\u0323\u0308\u0301", "\u0308\u0323\u0301"}, // no segment of its own, but at the front
	{"\u304B\u3099", "\u304C"},
}

// ways are the equivalent pieces in the row that begins with that one.
func ways(first string) []string {
	return spellings[slices.IndexFunc(spellings, func(row []string) bool { return row[0] == first })]
}

// spell writes rows, each in one of its ways.
func spell(d *dice, rows []int) string {
	text := ""
	for _, row := range rows {
		text += pick(d, spellings[row]...)
	}
	return text
}

// P13.3 and P2: equivalent texts have the same words by keys and segments, and each its
// own bytes, which are equivalent.
func TestEquivalence(t *testing.T) {
	d := dice(13)
	for range 8000 {
		rows := make([]int, d.roll(14))
		for i := range rows {
			rows[i] = d.roll(pick(&d, 12, len(spellings), len(spellings)))
		}
		one := spell(&d, rows)
		first := check(t, one)
		for _, other := range []string{spell(&d, rows), norm.Text([]byte(one))} {
			checkOther(t, one, other, first)
		}
	}
}

// checkOther sees to it that a text has the words of an equivalent one.
func checkOther(t *testing.T, one, other string, first []api.Word) {
	t.Helper()
	if !seg.Same([]byte(one), []byte(other)) {
		t.Fatalf("%+q and %+q aren't equivalent", one, other)
	}
	second := check(t, other)
	if len(first) != len(second) {
		t.Fatalf("%+q: %s, but %+q: %s", one, shown(first), other, shown(second))
	}
	for i, a := range first {
		b := second[i]
		if a.Key != b.Key || a.Span.From != b.Span.From || a.Span.To != b.Span.To ||
			!seg.Same([]byte(one[a.Span.Start:a.Span.End]), []byte(other[b.Span.Start:b.Span.End])) {
			t.Fatalf("%+q: %s, but %+q: %s", one, shown(first), other, shown(second))
		}
	}
	if Key([]byte(one)) != Key([]byte(other)) || !Same([]byte(one), []byte(other)) {
		t.Fatalf("%+q and %+q haven't the same key", one, other)
	}
}

// P13.3, by hand: one text in all its ways, with bytes of its own each time.
func TestAllWays(t *testing.T) {
	var texts []string
	for _, a := range ways("a\u0323\u0302\u0301") {
		for _, b := range ways("\u1100\u1161\u11A8") {
			for _, c := range ways("\uFFFD") {
				texts = append(texts, "x "+a+"'"+b+c+a+"1.5")
			}
		}
	}
	for _, text := range texts {
		segs, _ := seg.Split([]byte(text), api.MaxSegment)
		want := []api.Word{
			{Key: "x", Span: api.Span{From: 0, To: 1, Start: 0, End: 1}},
			{Key: "a\u0323\u0302\u0301'\u1100\u1161\u11A8", Span: api.Span{From: 2, To: 5, Start: 2, End: segs[4].End}},
			{Key: "a\u0323\u0302\u03011.5", Span: api.Span{From: 6, To: 10, Start: segs[6].At, End: len(text)}},
		}
		if got := check(t, text); !slices.Equal(got, want) {
			t.Fatalf("%+q: %s, but should be %s", text, shown(got), shown(want))
		}
	}
}

// P13.2 and P13.3: texts that are the same but for their case have words alike, where
// their segments are.
func TestCase(t *testing.T) {
	for _, c := range []struct{ a, b string }{
		{"It's 3.5 \u00C9t\u00E9s, e.g. _x1", "iT'S 3.5 \u00E9T\u00C9S, E.G. _X1"},
		{"\u0130\u212A \u1E0A\u0323", "i\u0307k \u1E0B\u0323"},
		{"\u03A3\u03AF\u03C3\u03C5\u03C6\u03BF\u03C2", "\u03C3\u0399\u0301\u03A3\u03A5\u03A6\u039F\u03A3"},
		{"\u041F\u0440\u0438\u0432\u0435\u0442, \u0401\u0436", "\u043F\u0420\u0418\u0412\u0415\u0422, \u0451\u0416"},
	} {
		a, b := check(t, c.a), check(t, c.b)
		if !slices.Equal(keysOf(a), keysOf(b)) || len(a) == 0 {
			t.Errorf("%+q: %s, but %+q: %s", c.a, shown(a), c.b, shown(b))
		}
		for i := range a {
			if a[i].Span.From != b[i].Span.From || a[i].Span.To != b[i].Span.To {
				t.Errorf("%+q: %s, but %+q: %s", c.a, shown(a), c.b, shown(b))
			}
		}
	}
	if l := check(t, strings.ToUpper("stra\u00DFe")); !slices.Equal(keysOf(l), []string{"strasse"}) {
		t.Error(shown(l))
	}
}
