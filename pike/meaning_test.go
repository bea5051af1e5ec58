package pike

import (
	"fmt"
	"slices"
	"strings"
	"testing"

	"trema/api"
	"trema/seg"
)

// thing is a part of a pattern, and what chapter 7 says that it means.
type thing struct {
	pattern     string
	of          []*thing
	least, most int               // how often the first of them comes, if it is repeated
	has         func(string) bool // of a single one
	kind        string            // "one", "row", "either", "often", "^", "$"
}

// single parts, each with the texts that it means.
var ones = []struct {
	pattern string
	has     func(text string) bool
}{
	{"a", func(x string) bool { return x == "a" }},
	{"b", func(x string) bool { return x == "b" }},
	{"e\u0301", func(x string) bool { return x == "e\u0301" }},
	{"\u00E9", func(x string) bool { return x == "e\u0301" }},
	{".", func(x string) bool { return true }},
	{`\.`, func(x string) bool { return x == "." }},
	{`\u{62}`, func(x string) bool { return x == "b" }},
	{"[ab]", func(x string) bool { return x == "a" || x == "b" }},
	{"[^a]", func(x string) bool { return x != "a" }},
	{"[a-e]", func(x string) bool { return x == "a" || x == "b" }},
	{"[^\u00E9.]", func(x string) bool { return x == "a" || x == "b" }},
	{`\p{L}`, func(x string) bool { return x != "." }},
	{`\P{L}`, func(x string) bool { return x == "." }},
}

// signs are all segments' texts over which things are held against programs.
var signs = []string{"a", "b", "e\u0301", "."}

// grow makes a thing of about so many parts.
func grow(d *dice, size int) *thing {
	if size <= 1 {
		if x := d.roll(10); x < 2 {
			kind := []string{"^", "$"}[x]
			return &thing{pattern: kind, kind: kind}
		}
		x := ones[min(d.roll(len(ones)), d.roll(len(ones)))]
		return &thing{pattern: x.pattern, has: x.has, kind: "one"}
	}
	switch d.roll(3) {
	case 0:
		x := &thing{kind: "row"}
		var parts []string
		for range d.roll(4) {
			x.of = append(x.of, grow(d, size/2))
			parts = append(parts, grouped(x.of[len(x.of)-1]))
		}
		x.pattern = strings.Join(parts, "")
		return x
	case 1:
		x := &thing{kind: "either"}
		var parts []string
		for range 1 + d.roll(3) {
			x.of = append(x.of, grow(d, size/2))
			parts = append(parts, x.of[len(x.of)-1].pattern)
		}
		x.pattern = strings.Join(parts, "|")
		if d.roll(3) == 0 { // an empty one
			x.pattern += "|"
			x.of = append(x.of, &thing{kind: "row"})
		}
		return x
	}
	return often(d, grow(d, size-1))
}

// often is a thing that is repeated.
func often(d *dice, of *thing) *thing {
	x := &thing{kind: "often", of: []*thing{of}}
	var times string
	switch d.roll(6) {
	case 0:
		x.least, x.most, times = 0, -1, "*"
	case 1:
		x.least, x.most, times = 1, -1, "+"
	case 2:
		x.least, x.most, times = 0, 1, "?"
	case 3:
		x.least = d.roll(4)
		x.most, times = x.least, fmt.Sprintf("{%d}", x.least)
	case 4:
		x.least = d.roll(3)
		x.most, times = -1, fmt.Sprintf("{%d,}", x.least)
	case 5:
		x.least = d.roll(3)
		x.most = x.least + d.roll(3)
		times = fmt.Sprintf("{%d,%d}", x.least, x.most)
	}
	x.pattern = "(" + of.pattern + ")" + times
	return x
}

// grouped is a thing's pattern as a part of a row.
func grouped(x *thing) string {
	if x.kind == "either" {
		return "(" + x.pattern + ")"
	}
	return x.pattern
}

// words are the places up to which texts are a word of a thing from any of some places
// on, bits in, bits out.
func words(x *thing, q ask, from uint) uint {
	to := uint(0)
	switch x.kind {
	case "one":
		for i, text := range q.window {
			if from>>i&1 == 1 && x.has(text) {
				to |= 1 << (i + 1)
			}
		}
	case "^":
		if q.begin {
			to = from & 1
		}
	case "$":
		if q.final {
			to = from & (1 << len(q.window))
		}
	case "row":
		to = from
		for _, y := range x.of {
			to = words(y, q, to)
		}
	case "either":
		for _, y := range x.of {
			to |= words(y, q, from)
		}
	case "often":
		rounds := x.most
		if rounds < 0 { // more than there are texts are of no use
			rounds = x.least + len(q.window) + 1
		}
		for i := range rounds + 1 {
			if i >= x.least {
				to |= from
			}
			from = words(x.of[0], q, from)
		}
	}
	return to
}

// greatest is the greatest of places, -1 if there are none.
func greatest(places uint) int {
	n := -1
	for ; places > 0; places >>= 1 {
		n++
	}
	return n
}

// means holds what a program answers over texts against what its pattern means.
func means(t *testing.T, x *thing, p []api.Instr, texts []string) {
	t.Helper()
	n := len(texts)
	for s := range n + 1 {
		for _, q := range flags(texts, s) {
			got, want := longest(p, q), greatest(words(x, q, 1<<s))
			if got.e != api.OK || got.found != (want >= 0) || got.end != max(0, want) {
				t.Fatalf("%s: %v %v, but should be up to %d", x.pattern, q, got, want)
			}
		}
		// A match up to e is the longest one in what ends there.
		all := words(x, ask{texts, s, true, true}, 1<<s)
		for e := s; e <= n; e++ {
			got := longest(p, ask{texts[:e], s, true, e == n})
			if want := all>>e&1 == 1; (got.found && got.end == e) != want {
				t.Fatalf("%s: %q from %d up to %d: %v, but that should be %v", x.pattern, texts, s, e, got, want)
			}
		}
	}
	if is, e := Whole(p, texts); e != api.OK || is != (words(x, ask{texts, 0, true, true}, 1)>>n&1 == 1) {
		t.Fatalf("%s: Whole %q %v %v", x.pattern, texts, is, e)
	}
	want := spansOf(n, func(s int) int { return greatest(words(x, ask{texts, s, true, true}, 1<<s)) })
	if got, e := All(p, texts); e != api.OK || !slices.Equal(got, want) {
		t.Fatalf("%s: All %q %v %v, but should be %v", x.pattern, texts, got, e, want)
	}
}

// P10.2: matches of a pattern's program are the words that the pattern means, and no
// others: patterns of all kinds, over short texts of all kinds and some longer ones.
func TestMeaning(t *testing.T) {
	d := dice(13)
	short := rows(3, signs...)
	for i := range 2000 {
		x := grow(&d, 1+i%9)
		p := of(t, x.pattern)
		for _, texts := range short {
			if len(texts) < 3 || d.roll(4) == 0 {
				means(t, x, p, texts)
			}
		}
		for range 5 {
			texts := make([]string, 4+d.roll(10))
			for k := range texts {
				texts[k] = pick(&d, signs[0], signs[0], signs[1], signs[d.roll(len(signs))])
			}
			means(t, x, p, texts)
		}
	}
}

// P10.2 by hand: words that a pattern means, and words that it doesn't.
func TestWords(t *testing.T) {
	row := func(n int) string { return strings.Repeat("a", n) }
	for _, c := range []struct {
		pattern, texts string
		want           bool
	}{
		{"ab|c*", "ab,,c,ccc", true}, {"ab|c*", "a,b,abc,cab,d", false}, {"(a|b)+c?", "a,b,abc,bbac,ba", true}, {"(a|b)+c?", ",c,ac.,acc,ca", false}, {"a{2,3}", "aa,aaa", true}, {"a{2,3}", ",a,aaaa,ab", false}, {"a{0}", "", true}, {"a{0}", "a", false}, {"a{2}", "aa", true}, {"a{2}", ",a,aaa", false}, {"a{2,}", "aa,aaa,aaaaaa", true}, {"a{2,}", ",a,aab", false}, {"(ab?){2}", "aa,aba,abab,aab", true}, {"(ab?){2}", ",a,ab,abb,ababa", false},
		{"[a-c]+", "a,abc,cc", true}, {"[a-c]+", ",d,ad,A,a\u0301", false}, {"[^a-c]", "d,e\u0301,1,a\u0301", true}, {"[^a-c]", ",a,c,dd", false}, {`\p{N}+\p{L}`, "1a,12b,3e\u0301", true}, {`\p{N}+\p{L}`, "1,11,a1,11aa", false}, {`\P{L}`, "1,.", true}, {`\P{L}`, "a,e\u0301,,11", false}, {"e\u0301+", "e\u0301,e\u0301\u00E9", true}, {"e\u0301+", ",e,ee\u0301,e\u0302", false}, {"\u00E9", "e\u0301,\u00E9", true}, {"\u00E9", "e,e\u0302,e\u0301\u0301", false}, {"*\u0301", "*\u0301", true}, {"*\u0301", "*,,\u0301", false}, {`\*\|`, "*|", true}, {`\*\|`, "*,|,**,", false},
		{"^a*$", ",a,aa", true}, {"^a*$", "b,ab,ba", false}, {"(^|a)b", "b,ab", true}, {"(^|a)b", "bb,a,aab", false}, {"a(b|$)", "a,ab", true}, {"a(b|$)", ",b,abb", false}, {"(a$|ab$)", "a,ab", true}, {"(a$|ab$)", "b,abb", false}, {"((a|b)(a|b))*", ",ab,aabb", true}, {"((a|b)(a|b))*", "a,aba", false}, {"(a*)*", ",a,aaa", true}, {"(a*)*", "b,ab", false}, {"(|a){2,3}", ",a,aa,aaa", true}, {"(|a){2,3}", "aaaa,b", false},
		{"(a{64}){63}a{63}", row(4095), true}, {"(a{64}){63}a{63}", row(4094) + "," + row(4096) + "," + row(4094) + "b", false},
	} {
		p := of(t, c.pattern)
		for _, x := range strings.Split(c.texts, ",") {
			texts := seg.Texts([]byte(x))
			if is, e := Whole(p, texts); e != api.OK || is != c.want {
				t.Errorf("Whole(%s, %q): %v %v", c.pattern, x, is, e)
			}
			end, found, _, _ := Longest(p, texts, 0, true, true)
			if (found && end == len(texts)) != c.want {
				t.Errorf("Longest(%s, %q): %d %v", c.pattern, x, end, found)
			}
		}
	}
}
