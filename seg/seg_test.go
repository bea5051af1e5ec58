package seg

import (
	"slices"
	"strings"
	"testing"

	"trema/api"
	"trema/norm"
)

// P4.1, the chapter's examples, and the edges that it names.
func TestSplitTellsTheExamples(t *testing.T) {
	for _, c := range []struct {
		in    string
		limit int
		want  []api.Segment
		e     api.Errno
	}{
		{"e\u0301x", 8, []api.Segment{{Text: "e\u0301", At: 0, End: 3}, {Text: "x", At: 3, End: 4}}, api.OK},
		{"\u00E9x", 8, []api.Segment{{Text: "e\u0301", At: 0, End: 2}, {Text: "x", At: 2, End: 3}}, api.OK},
		{"\u0301x", 8, []api.Segment{{Text: "\u0301", At: 0, End: 2}, {Text: "x", At: 2, End: 3}}, api.OK},
		{"a\u0301\u0302b", 2, nil, api.ErrSegment},
		{"xa\u0301\u0302", 2, []api.Segment{{Text: "x", At: 0, End: 1}}, api.ErrSegment},
		{"\uAC01", 3, []api.Segment{{Text: "\u1100\u1161\u11A8", At: 0, End: 3}}, api.OK},
		{"\u1100\u1161\u11A8", 3, []api.Segment{{Text: "\u1100\u1161\u11A8", At: 0, End: 9}}, api.OK},
		{"\xFFA", 8, []api.Segment{{Text: "\uFFFD", At: 0, End: 1}, {Text: "A", At: 1, End: 2}}, api.OK},
		// the empty text
		{"", 1, nil, api.OK},
		{"", api.MaxSegment, nil, api.OK},
		// texts that begin with what doesn't open
		{"\u0301", 1, []api.Segment{{Text: "\u0301", At: 0, End: 2}}, api.OK},
		{"\u0301\u0323", 2, []api.Segment{{Text: "\u0323\u0301", At: 0, End: 4}}, api.OK},
		{"\u0344", 2, []api.Segment{{Text: "\u0308\u0301", At: 0, End: 2}}, api.OK},
		{"\u0344", 1, nil, api.ErrSegment},
		{"\u1161\u11A8\u1100", 2, []api.Segment{{Text: "\u1161\u11A8", At: 0, End: 6}, {Text: "\u1100", At: 6, End: 9}}, api.OK},
		// code points whose normal form is longer than they are
		{"\u00E9", 2, []api.Segment{{Text: "e\u0301", At: 0, End: 2}}, api.OK},
		{"\u00E9", 1, nil, api.ErrSegment},
		{"\u1E69", 3, []api.Segment{{Text: "s\u0323\u0307", At: 0, End: 3}}, api.OK},
		{"\u1E69", 2, nil, api.ErrSegment},
		{"\uAC01", 2, nil, api.ErrSegment},
		{"x\uAC00\u11A8", 2, []api.Segment{{Text: "x", At: 0, End: 1}}, api.ErrSegment},
		{"e\u0344x", 2, nil, api.ErrSegment},
		{"\u212Bx\u212A", 2, []api.Segment{{Text: "A\u030A", At: 0, End: 3}, {Text: "x", At: 3, End: 4}, {Text: "K", At: 4, End: 7}}, api.OK},
		// marks come in order, over what a decomposition brings too
		{"a\u0301\u0323b", 3, []api.Segment{{Text: "a\u0323\u0301", At: 0, End: 5}, {Text: "b", At: 5, End: 6}}, api.OK},
		{"\u00E9\u0323", 3, []api.Segment{{Text: "e\u0323\u0301", At: 0, End: 4}}, api.OK},
		{"\uAC00\u0301\u11A8\u0323", 5, []api.Segment{{Text: "\u1100\u1161\u0301\u11A8\u0323", At: 0, End: 10}}, api.OK},
		// a starter in the midst of marks cuts, if it doesn't trail
		{"\u0301\u034F\u0301", 2, []api.Segment{{Text: "\u0301", At: 0, End: 2}, {Text: "\u034F\u0301", At: 2, End: 6}}, api.OK},
		// ill-formed pieces open
		{"e\xE2\x82\u0301", 2, []api.Segment{{Text: "e", At: 0, End: 1}, {Text: "\uFFFD\u0301", At: 1, End: 5}}, api.OK},
		{"e\xCC", 1, []api.Segment{{Text: "e", At: 0, End: 1}, {Text: "\uFFFD", At: 1, End: 2}}, api.OK},
		{"\xED\xA0\x80", 1, []api.Segment{{Text: "\uFFFD", At: 0, End: 1}, {Text: "\uFFFD", At: 1, End: 2}, {Text: "\uFFFD", At: 2, End: 3}}, api.OK},
		{"\xF0\x90\x80A", 1, []api.Segment{{Text: "\uFFFD", At: 0, End: 3}, {Text: "A", At: 3, End: 4}}, api.OK},
		{"\xFF\u0301", 1, nil, api.ErrSegment},
		// just the first bad one counts
		{"xe\u0301ye\u0301", 1, []api.Segment{{Text: "x", At: 0, End: 1}}, api.ErrSegment},
	} {
		got, e := Split([]byte(c.in), c.limit)
		if e != c.e {
			t.Errorf("Split(%q, %d): %v, but should be %v", c.in, c.limit, e, c.e)
		}
		same(t, "Split", []byte(c.in), got, c.want)
	}
	if l, e := Split(nil, 1); len(l) != 0 || e != api.OK {
		t.Errorf("Split(nil, 1): %v, %v", l, e)
	}
}

// P4.1 and R5, numbers that are no limits, at texts that are over every limit too.
func TestNoLimits(t *testing.T) {
	for _, limit := range noLimits {
		for _, in := range []string{"", "a", "\u00E9x", "x" + marked(api.MaxSegment+1), "\xFF"} {
			if l, e := Split([]byte(in), limit); len(l) != 0 || e != api.ErrArg {
				t.Errorf("Split(%q, %d): %v, %v", in, limit, l, e)
			}
		}
		if s, e := New(limit); s != nil || e != api.ErrArg {
			t.Errorf("New(%d): %v, %v", limit, s, e)
		}
	}
}

// P4.1, segments just as long as each limit and one longer, at the front, in the
// midst and at the end.
func TestEveryLimit(t *testing.T) {
	for limit := 1; limit <= api.MaxSegment; limit++ {
		fits, over := marked(limit), marked(limit+1)
		for _, c := range []struct {
			in   string
			told int
			e    api.Errno
		}{
			{fits, 1, api.OK},
			{fits + "x", 2, api.OK},
			{"x" + fits, 2, api.OK},
			{"x" + fits + fits + "x", 4, api.OK},
			{over, 0, api.ErrSegment},
			{over + "x", 0, api.ErrSegment},
			{"x" + over, 1, api.ErrSegment},
			{"x" + fits + over, 2, api.ErrSegment},
			{"x" + fits + over + "x" + fits, 2, api.ErrSegment},
			{fits[1:] + "\u0301", 1, api.OK},
			{fits[1:] + "\u0301\u0323x", 0, api.ErrSegment},
		} {
			got, e := Split([]byte(c.in), limit)
			if e != c.e || len(got) != c.told {
				t.Errorf("Split(%+q, %d): %d segments, %v", c.in, limit, len(got), e)
			}
			want, _ := upTo(said([]byte(c.in)), limit)
			same(t, "Split", []byte(c.in), got, want)
		}
	}
}

// P4.1 and P4.3, all short texts of all pieces.
func TestShortTexts(t *testing.T) {
	eachOf(pieces, 3, func(text string) {
		b := []byte(text)
		l := said(b)
		for _, limit := range []int{1, 2, 3, 4, api.MaxSegment} {
			got, e := Split(b, limit)
			want, bad := upTo(l, limit)
			same(t, "Split", b, got, want)
			if e != bad {
				t.Fatalf("Split(%q, %d): %v, but should be %v", text, limit, e, bad)
			}
		}
		checkWhole(t, b, l)
	})
}

// checkWhole sees to it that the segments of b, and Texts, are all of it.
func checkWhole(t *testing.T, b []byte, l []api.Segment) {
	t.Helper()
	texts := Texts(b)
	if len(texts) != len(l) || strings.Join(texts, "") != norm.Text(b) {
		t.Fatalf("Texts(%q): %+q", b, texts)
	}
	at := 0
	for i, s := range l {
		if s.Text != texts[i] || s.Text == "" || s.At != at || s.End <= at {
			t.Fatalf("the %d-th segment of %+q: %s, and its Text %+q", i, b, shown(l[i:i+1]), texts[i])
		}
		at = s.End
	}
	if at != len(b) {
		t.Fatalf("the segments of %q end at %d", b, at)
	}
}

// P4.1 and P4.3, a long text.
func TestLongText(t *testing.T) {
	b := mixed(200000, 20)
	l := said(b)
	got, e := Split(b, api.MaxSegment)
	same(t, "Split", nil, got, l)
	if e != api.OK {
		t.Error(e)
	}
	checkWhole(t, b, got)
	got, e = Split(slices.Concat(b, []byte(marked(api.MaxSegment+1)), b), api.MaxSegment)
	same(t, "Split", nil, got, l)
	if e != api.ErrSegment {
		t.Error(e)
	}
}

// P4.1 and P4.3, Texts has no limit.
func TestTextsHasNoLimit(t *testing.T) {
	for _, n := range []int{api.MaxSegment, api.MaxSegment + 1, 1000, 200000} {
		run := strings.Repeat("\u0301\u0323", n)
		ordered := strings.Repeat("\u0323", n) + strings.Repeat("\u0301", n)
		got := Texts([]byte(run + "x" + run + "\uAC00" + run))
		want := []string{ordered, "x" + ordered, "\u1100\u1161" + ordered}
		if !slices.Equal(got, want) {
			t.Errorf("Texts of runs of %d marks: %d segments", 2*n, len(got))
		}
	}
	if l := Texts(nil); len(l) != 0 {
		t.Errorf("Texts(nil): %q", l)
	}
}

// P4.1 and P4.4, texts that are equivalent, and texts that aren't.
func TestSame(t *testing.T) {
	for _, c := range []struct {
		a, b string
		want bool
	}{
		{"", "", true},
		{"\u00E9", "e\u0301", true},
		{"e", "\u00E9", false},
		{"a\u0301\u0323x", "a\u0323\u0301x", true},
		{"a\u0301\u0308", "a\u0308\u0301", false},
		{"\u1E69", "s\u0307\u0323", true},
		{"\u212B", "\u00C5", true},
		{"\uAC01", "\u1100\u1161\u11A8", true},
		{"\uAC01", "\uAC00\u11A8", true},
		{"\u0344", "\u0308\u0341", true},
		{"\xFF", "\uFFFD", true},
		{"\xE2\x82", "\xFF", true},
		{"\xE2\x82", "\xFF\xFF", false},
		{"\xED\xA0\x80", "\uFFFD\uFFFD\uFFFD", true},
		{"", "x", false},
		{"x", "xx", false},
		{"x", "X", false},
		{"\u0301x", "x\u0301", false},
		{"ab\u0301", "a\u0301b", false},
		{"x" + marked(70) + "\u0344", "x" + marked(70) + "\u0308\u0301", true},
		{"x" + marked(70), "x" + marked(71), false},
	} {
		if Same([]byte(c.a), []byte(c.b)) != c.want || Same([]byte(c.b), []byte(c.a)) != c.want {
			t.Errorf("Same(%q, %q): %v", c.a, c.b, !c.want)
		}
	}
	if !Same(nil, []byte{}) || Same(nil, []byte("x")) {
		t.Error("Same, with nil")
	}
}

// P4.4, all pairs of short texts.
func TestPairsOfTexts(t *testing.T) {
	var texts [][]byte
	var runes [][]int32
	eachOf([]string{"e", "\u00E9", "\u0301", "\u0323", "\u0344", "\u1161", "\uAC00", "\uFFFD", "\xCC"}, 3, func(text string) {
		texts = append(texts, []byte(text))
		runes = append(runes, norm.Runes(text))
	})
	for i, a := range texts {
		l := Texts(a)
		for k, b := range texts {
			want := norm.Same(runes[i], runes[k])
			if Same(a, b) != want {
				t.Fatalf("Same(%q, %q): %v", a, b, !want)
			}
			// what differs in length is told apart by P4.3, and takes the most time
			if want || len(a) == len(b) {
				checkPair(t, a, b, l, want)
			}
		}
	}
}

// checkPair sees to it that the Texts of b are l just where b is equivalent to a,
// and that the raw bytes are equivalent segment by segment then.
func checkPair(t *testing.T, a, b []byte, l []string, equivalent bool) {
	t.Helper()
	if slices.Equal(l, Texts(b)) != equivalent {
		t.Fatalf("Texts of %q and %q: %+q, %+q", a, b, l, Texts(b))
	}
	if !equivalent {
		return
	}
	of, with := said(a), said(b)
	got, _ := Split(a, api.MaxSegment)
	same(t, "Split", a, got, of)
	got, _ = Split(b, api.MaxSegment)
	same(t, "Split", b, got, with)
	for i := range of {
		if !Same(a[of[i].At:of[i].End], b[with[i].At:with[i].End]) {
			t.Fatalf("the bytes of the %d-th segments of %q and %q", i, a, b)
		}
	}
}

// R3: what is handed in is left as it is, its spare room too.
func TestArgumentsAreLeftAsTheyAre(t *testing.T) {
	const in = "a\u0301\u0323x\u00E9\xE2\x82\x41\xCC????"
	b := []byte(in)
	for n := range len(b) - 3 {
		Split(b[:n], 2)
		Split(b[:n], api.MaxSegment)
		Texts(b[:n])
		Same(b[:n], b[n:])
		s, _ := New(3)
		s.Write(b[:n])
		s.Write(b[n : len(b)-4])
		s.Close()
		if string(b) != in {
			t.Fatalf("bytes became %q", b)
		}
	}
}

// R3: answers are new memory, their spare room too, and what they tell stays when
// the bytes change.
func TestAnswersAreNew(t *testing.T) {
	for _, in := range []string{"xe\u0301\u0323y", "x", "\u00E9\xE2\x82", "ab\u0301\u0323\u0301"} {
		b := []byte(in)
		want, bad := upTo(said(b), 3)
		first, _ := Split(b, 3)
		second, e := Split(b, 3)
		texts, other := Texts(b), Texts(b)
		spoil(first)
		spoil(texts)
		clear(b)
		same(t, "Split", []byte(in), second, want)
		if e != bad || strings.Join(other, "") != norm.Text([]byte(in)) {
			t.Errorf("of %q: %v, Texts %+q", in, e, other)
		}
		again, _ := Split([]byte(in), 3)
		same(t, "Split", []byte(in), again, want)
	}
}
