package stream

import (
	"fmt"
	"regexp"
	"slices"
	"strings"
	"testing"

	"trema/api"
	"trema/seg"
)

// forms is a pattern with a letter a to f for each segment that it names, and signs that
// mean the same to this package and to package regexp; "<" stands for ^ and ">" for $.
type forms string

// variants are equivalent pieces, each one segment, for each letter a to f.
var variants = [][]string{
	{"a"},
	{"e\u0301", "\u00E9"},
	{"a\u0323\u0302\u0301", "a\u0302\u0323\u0301", "a\u0302\u0301\u0323", "\u1EA1\u0302\u0301", "\u00E2\u0323\u0301", "\u00E2\u0301\u0323", "\u1EA5\u0323"},
	{"\uFFFD", "\xFF", "\xE2\x82", "\xF0\x90\x80", "\xCC"},
	{"A\u030A", "\u00C5", "\u212B"},
	{"\u1100\u1161\u11A8", "\uAC00\u11A8", "\uAC01"},
}

// coded are others that stand in patterns alone, where one number is enough.
var coded = []string{`\u{61}`, `\u{e9}`, "", `\u{00fffd}`, `\u{212B}`, `\u{AC01}`}

// pattern writes each letter in one of its ways, by its number too.
func (x forms) pattern(d *dice) string {
	return x.by(func(i int) string {
		if d.roll(4) == 0 && coded[i] != "" {
			return coded[i]
		}
		return pick(d, variants[i]...)
	})
}

// plain writes each letter as a segment.
func (x forms) plain(d *dice) string {
	return x.by(func(i int) string { return pick(d, variants[i]...) })
}

func (x forms) by(write func(letter int) string) string {
	var l []string
	for _, r := range x {
		switch {
		case r == '<':
			l = append(l, "^")
		case r == '>':
			l = append(l, "$")
		case 'a' <= r && r <= 'f':
			l = append(l, write(int(r-'a')))
		default:
			l = append(l, string(r))
		}
	}
	return strings.Join(l, "")
}

// written is a text with each letter in one of its ways.
func written(d *dice, letters string) string {
	var l []string
	for _, r := range letters {
		l = append(l, pick(d, variants[r-'a']...))
	}
	return strings.Join(l, "")
}

// rolledLetters are letters, most of them a and b.
func rolledLetters(d *dice, n int) string {
	l := make([]byte, n)
	for i := range l {
		l[i] = "aaaaabbbcdef"[d.roll(12)]
	}
	return string(l)
}

// grow makes a pattern of about so many parts.
func grow(d *dice, size int) forms {
	if size <= 1 {
		return forms(pick(d, "a", "a", "a", "b", "b", "c", "d", "e", "f", ".", ".", "[ab]", "[^a]", "[^cdb]", "[af]", "<", ">"))
	}
	var parts []string
	switch d.roll(3) {
	case 0:
		for range d.roll(4) {
			parts = append(parts, string(grow(d, size/2)))
		}
		return forms(strings.Join(parts, ""))
	case 1:
		for range 1 + d.roll(3) {
			parts = append(parts, string(grow(d, size/2)))
		}
		return forms("(" + strings.Join(parts, "|") + pick(d, "", "", "|") + ")")
	}
	least := d.roll(3)
	times := pick(d, "*", "+", "?", "*", fmt.Sprintf("{%d}", least), fmt.Sprintf("{%d,}", least), fmt.Sprintf("{%d,%d}", least, least+d.roll(3)))
	return forms("(" + string(grow(d, size-1)) + ")" + times)
}

// ends tells up to where the longest match goes from each place, -1 where there is none,
// by package regexp.
func (x forms) ends(letters string) []int {
	const never = `[^\x00-\x{10FFFF}]`
	var all [2][2]*regexp.Regexp // whether it begins at the beginning, and ends at the end
	for i, first := range []string{never, `\A`} {
		for k, last := range []string{never, `\z`} {
			all[i][k] = regexp.MustCompile(`\A(?:` + strings.NewReplacer("<", first, ">", last).Replace(string(x)) + `)\z`)
		}
	}
	bit := map[bool]int{true: 1}
	l := make([]int, len(letters)+1)
	for s := range l {
		l[s] = -1
		for e := s; e <= len(letters); e++ {
			if all[bit[s == 0]][bit[e == len(letters)]].MatchString(letters[s:e]) {
				l[s] = e
			}
		}
	}
	return l
}

// spans are the spans LL by DOC.md's words, by segments alone.
func (x forms) spans(letters string) []api.Span {
	ends := x.ends(letters)
	var l []api.Span
	for i := 0; i < len(ends); {
		s := i
		for s < len(ends) && ends[s] < 0 {
			s++
		}
		if s == len(ends) {
			break
		}
		l = append(l, api.Span{From: s, To: ends[s]})
		i = max(ends[s], s+1)
	}
	return l
}

// P12.2 and P12.3: what is told is what the pattern means, told without any other layer;
// the same by segments in whichever way pattern and text are written, and however the text
// is cut; bytes are each text's own, and those of equal segments equivalent.
func TestMeaning(t *testing.T) {
	d := dice(6)
	found := 0
	for i := range 1500 {
		x := grow(&d, 1+i%9)
		for range 3 {
			letters := rolledLetters(&d, d.roll(13))
			want := x.spans(letters)
			found += len(want)
			plain := written(&d, letters)
			for range 4 {
				text := written(&d, letters)
				pattern := x.pattern(&d)
				c := Config{4 + d.roll(61), 14 + d.roll(api.MaxWindow-13), pick(&d, 0, 2, 3, 5, 20, api.MaxCache)}
				s, _, e := New([]byte(pattern), c)
				if e != api.OK {
					t.Fatal(pattern, e)
				}
				var told []api.Span
				chunks := pick(&d, d.cuts([]byte(text)), bytewise([]byte(text)), [][]byte{[]byte(text)})
				for _, b := range chunks {
					l, _ := s.Write(b)
					told = append(told, l...)
				}
				l, e := s.Close()
				told = append(told, l...)
				if e != api.OK || !slices.EqualFunc(told, want, func(a, b api.Span) bool { return a.From == b.From && a.To == b.To }) {
					t.Fatalf("%q in %+q (%s in %s): %s, %v, but should be %s", pattern, text, x, letters, shown(told), e, shown(want))
				}
				own(t, plain, text, told)
			}
		}
	}
	if found < 5000 {
		t.Error("too few are found", found)
	}
}

// own holds the bytes of spans in a text, and P4.4's part of P2: the raw bytes of the
// segments of an equivalent one are equivalent.
func own(t *testing.T, plain, text string, told []api.Span) {
	t.Helper()
	a, b := cut([]byte(plain)), cut([]byte(text))
	for _, s := range told {
		if s != spanOf(b, s.From, s.To) {
			t.Fatalf("in %+q: %v, but should be %v", text, s, spanOf(b, s.From, s.To))
		}
		other := spanOf(a, s.From, s.To)
		if !seg.Same([]byte(plain[other.Start:other.End]), []byte(text[s.Start:s.End])) {
			t.Fatalf("%v in %+q isn't equivalent to %v in %+q", s, text, other, plain)
		}
	}
}

// P12.3: refusals are the same for equivalent patterns, and so are errors of texts.
func TestEquivalentErrors(t *testing.T) {
	d := dice(7)
	for range 400 {
		x := grow(&d, 1+d.roll(8))
		letters := rolledLetters(&d, d.roll(13))
		c := Config{1 + d.roll(4), 1 + d.roll(4), pick(&d, 0, 2, 7)}
		var was []api.Span
		var bad api.Errno
		for i := range 4 {
			told, e := All([]byte(x.pattern(&d)), []byte(written(&d, letters)), c)
			for k := range told {
				told[k].Start, told[k].End = 0, 0
			}
			if i > 0 && (e != bad || !slices.Equal(told, was)) {
				t.Fatalf("%s in %s, %v: %s, %v, but also %s, %v", x, letters, c, shown(told), e, shown(was), bad)
			}
			was, bad = told, e
		}
	}
	for _, pattern := range []forms{"bb(", "b**", "be)", "(fb", "[b-a]", "c{3,2}", "[", "e[^", "a|(c|[^d)*"} {
		_, want, bad := New([]byte(pattern.plain(&d)), Config{1, 1, 0})
		for range 10 {
			if s, place, e := New([]byte(pattern.plain(&d)), Config{64, 8, 2}); s != nil || e != bad || e == api.OK || place != want {
				t.Errorf("%s: %d, %v, but also %d, %v", pattern, place, e, want, bad)
			}
		}
	}
}
