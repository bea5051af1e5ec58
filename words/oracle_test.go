package words

import (
	"fmt"
	"slices"
	"strings"
	"testing"

	"trema/api"
	"trema/seg"
	"trema/ucd"
	"trema/utf"
)

// ordered is the normal form of code points, made by exchanging neighbours.
func ordered(l []int32) []int32 {
	var all []int32
	for _, r := range l {
		all = append(all, ucd.Decompose(r)...)
	}
	for again := true; again; {
		again = false
		for i := 1; i < len(all); i++ {
			a, b := ucd.Class(all[i-1]), ucd.Class(all[i])
			if b > 0 && a > b {
				all[i-1], all[i] = all[i], all[i-1]
				again = true
			}
		}
	}
	return all
}

// keyOf is the key by the chapter's words.
func keyOf(text string) string {
	var l []int32
	for _, p := range utf.Decode([]byte(text)) {
		l = append(l, p.Rune)
	}
	var folded []int32
	for _, r := range ordered(l) {
		folded = append(folded, ucd.Fold(r)...)
	}
	key := ""
	for _, r := range ordered(folded) {
		key += string(rune(r))
	}
	return key
}

// sort is what a segment is by the chapter's words: L, N, _ or - for what is other, and
// ' or . for the joints.
func sort(text string) string {
	if text == "" {
		return "-"
	}
	if slices.Contains([]string{"'", "\u2019", "\u00B7"}, text) {
		return "'"
	}
	if text == "." || text == "," {
		return "."
	}
	first := utf.Decode([]byte(text))[0].Rune
	switch {
	case first == 0x5F:
		return "_"
	case ucd.Category(first) == ucd.L:
		return "L"
	case ucd.Category(first) == ucd.N:
		return "N"
	}
	return "-"
}

// wordsOf are the words by the chapter's words: each piece of the list that has nothing
// but what may stand in a word, and that can't be made longer.
func wordsOf(segs []api.Segment) []api.Word {
	sorts := ""
	for _, s := range segs {
		sorts += sort(s.Text)
	}
	framed := "-" + sorts + "-"
	in := func(i int) bool { // of a place between -1 and the number of segments
		here := framed[i+1]
		return here == 'L' || here == 'N' || here == '_' ||
			here == '\'' && framed[i:i+3] == "L'L" || here == '.' && framed[i:i+3] == "N.N"
	}
	var l []api.Word
	for from := range segs {
		if !in(from) || in(from-1) {
			continue
		}
		to := from
		text := ""
		for in(to) {
			text += segs[to].Text
			to++
		}
		l = append(l, api.Word{Key: keyOf(text), Span: api.Span{From: from, To: to, Start: segs[from].At, End: segs[to-1].End}})
	}
	return l
}

// check compares the words of a text with those by the chapter's words, and looks for
// what the promises say of them.
func check(t *testing.T, text string) []api.Word {
	t.Helper()
	segs, bad := seg.Split([]byte(text), api.MaxSegment)
	want := wordsOf(segs)
	if bad != api.OK {
		want = nil
	}
	got, e := Words([]byte(text), api.MaxSegment)
	if e != bad || !slices.Equal(got, want) {
		t.Fatalf("Words of %+q: %s, %v, but should be %s, %v", text, shown(got), e, shown(want), bad)
	}
	if l := Join(segs); bad == api.OK && !slices.Equal(l, want) {
		t.Fatalf("Join of %+q: %s, but should be %s", text, shown(l), shown(want))
	}
	behind := -1
	for _, w := range got {
		s := w.Span
		if s.From <= behind || s.To <= s.From || s.To > len(segs) || s.End <= s.Start {
			t.Fatalf("words of %+q don't stand apart: %s", text, shown(got))
		}
		behind = s.To
		raw := text[s.Start:s.End]
		if w.Key != Key([]byte(raw)) || w.Key != Key([]byte(w.Key)) || w.Key == "" {
			t.Fatalf("%+q has the key %+q, but %+q, and that has %+q", raw, w.Key, Key([]byte(raw)), Key([]byte(w.Key)))
		}
	}
	return got
}

// shown is a list with its marks apart from their letters.
func shown(l []api.Word) string {
	text := ""
	for _, w := range l {
		text += fmt.Sprintf("{%+q %v}", w.Key, w.Span)
	}
	return "[" + text + "]"
}

// listed is a list of segments with their marks apart from their letters.
func listed(l []api.Segment) string {
	text := ""
	for _, s := range l {
		text += fmt.Sprintf("{%+q %d %d}", s.Text, s.At, s.End)
	}
	return "[" + text + "]"
}

// segments are segments of one byte each with those texts.
func segments(texts ...string) []api.Segment {
	var l []api.Segment
	for i, text := range texts {
		l = append(l, api.Segment{Text: text, At: i, End: i + 1})
	}
	return l
}

// eachOf hands every list of up to that many pieces to f.
func eachOf(pieces []string, count int, f func([]string)) {
	var fill func([]string, int)
	fill = func(l []string, more int) {
		f(l)
		if more == 0 {
			return
		}
		for _, p := range pieces {
			fill(append(slices.Clip(l), p), more-1)
		}
	}
	fill(nil, count)
}

// keysOf are the keys alone.
func keysOf(l []api.Word) []string {
	var keys []string
	for _, w := range l {
		keys = append(keys, w.Key)
	}
	return keys
}

// marked is a segment of that length: a letter, and marks of two classes.
func marked(letter string, n int) string {
	return letter + strings.Repeat("\u0301\u0323", n)[:2*(n-1)]
}

// dice are numbers without an order that can be seen, the same at every run.
type dice uint64

func (d *dice) roll(n int) int {
	*d = *d*6364136223846793005 + 1442695040888963407
	return int(uint64(*d)>>33) % n
}

func pick[T any](d *dice, l ...T) T { return l[d.roll(len(l))] }
