package syntax

import (
	"slices"
	"strings"
	"testing"

	"trema/api"
	"trema/norm"
	"trema/seg"
	"trema/segset"
	"trema/ucd"
)

// dice are numbers without an order that can be seen, the same at every run.
type dice uint64

func (d *dice) roll(n int) int {
	*d = *d*6364136223846793005 + 1442695040888963407
	return int(uint64(*d)>>33) % n
}

func pick[E any](d *dice, l ...E) E { return l[d.roll(len(l))] }

// eachOf calls f with all texts of up to n pieces behind a beginning.
func eachOf(begin string, pieces []string, n int, f func(in string)) {
	f(begin)
	if n == 0 {
		return
	}
	for _, x := range pieces {
		eachOf(begin+x, pieces, n-1, f)
	}
}

// P7.1 and P7.3, all short patterns of all pieces, and longer ones of some, against
// the machine.
func TestShortPatterns(t *testing.T) {
	for _, c := range []struct {
		begin  string
		pieces string
		n      int
	}{
		{"", "a \u00E9 ( ) | * + ? { } 0 1 2 , [ ] ^ $ - \\ u p P L d . *\u0301 \xFF", 3},
		{"", "a ( ) | * ^ {2}", 5}, {"", "( ) | $", 7},
		{"a{", "0 1 6 4 5 , }", 5}, {"a{", "1 2 , } \u0301", 6}, {"(|b)*a{1", "0 9 , } * )", 5},
		{"[", "a b - ^ ] [ \\", 5}, {"[", "\u00E9 a - ] \\ \\u{62} \\p{L}", 4}, {"[^", "a - ] \\p{Z} \\- .", 5}, {"[a-", "a z ] \\ - \\u{61} p {", 4},
		{"\\u{", "0 d 8 f } 1", 6}, {"\\u{1", "0 1 f }", 7}, {"[\\u{10", "f 0 } ] -", 6}, {"\\", "u p P { } L Z 0 -", 5}, {"[\\", "p { } N - a ]", 6},
	} {
		eachOf(c.begin, strings.Split(c.pieces, " "), c.n, func(in string) { same(t, in, said(in)) })
	}
}

// writer writes patterns, and the steps that the chapter's words make of them.
type writer struct {
	dice
	in strings.Builder
}

func (w *writer) choice(depth int) []api.Node {
	l := w.row(depth)
	for range w.roll(4) * w.roll(2) {
		w.in.WriteString("|")
		l = append(append(l, w.row(depth)...), or)
	}
	return l
}

func (w *writer) row(depth int) []api.Node {
	var l []api.Node
	n := w.roll(5)
	for i := range n {
		l = append(l, w.part(depth)...)
		if i > 0 {
			l = append(l, cat)
		}
	}
	if n == 0 {
		return are(empty).steps
	}
	return l
}

func (w *writer) part(depth int) []api.Node {
	switch w.roll(12) {
	case 0:
		w.in.WriteString("^")
		return are(begin).steps
	case 1:
		w.in.WriteString("$")
		return are(end).steps
	}
	l := w.atom(depth)
	many := []struct {
		in          string
		least, most int
	}{
		{"*", 0, -1}, {"+", 1, -1}, {"?", 0, 1}, {"{0}", 0, 0}, {"{7}", 7, 7}, {"{12}", 12, 12}, {"{64}", 64, 64}, {"{2,}", 2, -1}, {"{10,}", 10, -1}, {"{0,3}", 0, 3}, {"{1,1}", 1, 1}, {"{1,64}", 1, 64}, {"{2,2}", 2, 2},
	}
	if w.roll(3) == 0 {
		x := pick(&w.dice, many...)
		w.in.WriteString(x.in)
		return append(l, times(x.least, x.most))
	}
	return l
}

func (w *writer) atom(depth int) []api.Node {
	switch n := w.roll(10); {
	case n < 3 && depth < api.MaxDepth:
		w.in.WriteString("(")
		l := w.choice(depth + 1)
		w.in.WriteString(")")
		return l
	case n == 3:
		w.in.WriteString(".")
		return are(every).steps
	case n == 4:
		x := pick(&w.dice, categories...)
		w.in.WriteString(x.in)
		return are(node(x.set)).steps
	case n < 7:
		return are(node(w.class())).steps
	}
	x := pick(&w.dice, atoms...)
	w.in.WriteString(x.in)
	return are(text(x.text)).steps
}

// spelled is a way to write a text, or a set.
type spelled struct {
	in, text string
	set      api.Set
}

var atoms = []spelled{
	{in: "a", text: "a"}, {in: "b", text: "b"}, {in: "\u00E9", text: "e\u0301"}, {in: "e\u0301", text: "e\u0301"}, {in: `\u{e9}`, text: "e\u0301"}, {in: `\u{0000E9}`, text: "e\u0301"}, {in: `\*`, text: "*"}, {in: `\\`, text: "\\"},
	{in: `\)`, text: ")"}, {in: `\-`, text: "-"}, {in: "-", text: "-"}, {in: ",", text: ","}, {in: "1", text: "1"}, {in: "*\u0301", text: "*\u0301"}, {in: ")\u0301\u0323", text: ")\u0323\u0301"}, {in: "\\\u0301", text: "\\\u0301"},
	{in: "u", text: "u"}, {in: "p", text: "p"}, {in: "\xFF", text: "\uFFFD"}, {in: "\xE2\x82", text: "\uFFFD"}, {in: "\uAC01", text: "\u1100\u1161\u11A8"}, {in: `\u{ac01}`, text: "\u1100\u1161\u11A8"}, {in: `\u{28}`, text: "("}, {in: `\u{301}`, text: "\u0301"},
}

var categories = []spelled{
	{in: `\p{L}`, set: segset.First(ucd.Ranges(ucd.L))}, {in: `\P{L}`, set: segset.Not(segset.First(ucd.Ranges(ucd.L)))}, {in: `\p{C}`, set: segset.First(ucd.Ranges(ucd.C))}, {in: `\P{N}`, set: segset.Not(segset.First(ucd.Ranges(ucd.N)))},
}

// letters are texts of one code point, rising.
var letters = []spelled{
	{in: `\u{0}`, text: "\x00"}, {in: "(", text: "("}, {in: `\*`, text: "*"}, {in: `\-`, text: "-"}, {in: ".", text: "."}, {in: "7", text: "7"}, {in: "K", text: "K"}, {in: "\u212A", text: "K"}, {in: "a", text: "a"}, {in: `\u{61}`, text: "a"},
	{in: "p", text: "p"}, {in: "u", text: "u"}, {in: "{", text: "{"}, {in: "\u03A9", text: "\u03A9"}, {in: "\xFF", text: "\uFFFD"}, {in: `\u{10FFFF}`, text: "\U0010FFFF"},
}

func (w *writer) class() api.Set {
	var s api.Set
	w.in.WriteString("[")
	others := w.roll(3) == 0
	if others {
		w.in.WriteString("^")
	}
	for range 1 + w.roll(4) {
		s = segset.Union(s, w.item())
	}
	w.in.WriteString("]")
	if others {
		return segset.Not(s)
	}
	return s
}

func (w *writer) item() api.Set {
	switch w.roll(4) {
	case 0:
		x := pick(&w.dice, categories...)
		w.in.WriteString(x.in)
		return x.set
	case 1:
		i := w.roll(len(letters))
		k := i + w.roll(len(letters)-i)
		w.in.WriteString(letters[i].in + "-" + letters[k].in)
		return segset.Ones(pairs(norm.Runes(letters[i].text)[0], norm.Runes(letters[k].text)[0]))
	case 2:
		x := pick(&w.dice, letters...)
		w.in.WriteString(x.in)
		return segset.Of(x.text)
	}
	for {
		if x := pick(&w.dice, atoms...); x.in != "-" {
			w.in.WriteString(x.in)
			return segset.Of(x.text)
		}
	}
}

// patterns calls f with patterns of all kinds, and their steps.
func patterns(n int, f func(d *dice, in string, steps []api.Node)) {
	for i := range n {
		w := &writer{dice: dice(i)}
		depth := pick(&w.dice, 0, 0, 1, 28, api.MaxDepth)
		w.in.WriteString(strings.Repeat("(", depth))
		steps := w.choice(depth)
		w.in.WriteString(strings.Repeat(")", depth))
		if in := w.in.String(); len(in) < 400 {
			f(&w.dice, in, steps)
		}
	}
}

// pieces are the texts of a pattern's segments.
func pieces(in string) []string { return seg.Texts([]byte(in)) }

// P7.1 and P7.3, patterns that may be, and each beginning of the shorter ones, which
// ends too early.
func TestPatterns(t *testing.T) {
	count := 0
	patterns(2000, func(d *dice, in string, steps []api.Node) {
		same(t, in, are(steps...))
		same(t, in, said(in))
		l := pieces(in)
		head := strings.Join(l[:d.roll(len(l)+1)], "") + "***"
		same(t, head, said(head))
		for k := range l[:min(len(l), 40)] {
			head := strings.Join(l[:k], "")
			if got := parse(head); got.e != api.OK && (got.e != api.ErrForm || got.place != k) {
				t.Fatalf("Parse(%+q): %d %v, but the end is %d", head, got.place, got.e, k)
			}
			count++
		}
	})
	if count < 20000 {
		t.Errorf("just %d beginnings", count)
	}
}

// P7.1, patterns with a piece too many, too few or another, against the machine.
func TestSpoiltPatterns(t *testing.T) {
	wrong := []string{"(", ")", "[", "]", "{", "}", "*", "?", "|", "^", "$", "\\", "-", ",", ".", "a", "0", "3", "u", "p", "\u00E9", "\xFF", "{3,2}", "{65}", `\q`, `\u{dFff}`, `\p{q}`, "z-a", "((((", "*\u0301", "\u0301"}
	refused := map[api.Errno]int{}
	patterns(6000, func(d *dice, in string, _ []api.Node) {
		l := pieces(in)
		for range 1 + d.roll(3) {
			i := d.roll(len(l) + 1)
			switch k := min(len(l), i+d.roll(2)); d.roll(3) {
			case 0:
				l = slices.Delete(l, i, k)
			case 1:
				l = slices.Insert(l, i, pick(d, wrong...))
			default:
				l = slices.Replace(l, i, k, pick(d, wrong...))
			}
		}
		in = strings.Join(l, "")
		same(t, in, said(in))
		refused[parse(in).e]++
	})
	if refused[api.OK] < 1000 || refused[api.ErrForm] < 1000 || refused[api.ErrDeep] < 10 {
		t.Errorf("%v", refused)
	}
}

// P7.1, bytes without any form: no call panics, and each answers as the machine.
func TestAnyBytes(t *testing.T) {
	d := dice(1)
	bytes := []byte("a({[)]}|*+?^$.\\-,upPLM0123456789ed\xCC\x81\xCC\x81\xE1\x85\xA1\xFF\xC3\xF0\x00")
	for range 30000 {
		in := make([]byte, d.roll(24))
		for i := range in {
			in[i] = pick(&d, bytes...)
			if d.roll(8) == 0 {
				in[i] = byte(d.roll(256))
			}
		}
		same(t, string(in), said(string(in)))
		unquote(t, string(in))
	}
}

// unquote sees to it that Parse of Quote is the segments' sets, one behind the other.
func unquote(t *testing.T, in string) {
	t.Helper()
	want := are(empty)
	for i, x := range pieces(in) {
		if i == 0 {
			want = are(text(x))
			continue
		}
		want.steps = append(want.steps, text(x), cat)
	}
	same(t, Quote([]byte(in)), want)
}

// P7.3, Parse of Quote.
func TestUnquote(t *testing.T) {
	list := append(strings.Fields(signList), "a", "-", "\u0301", "\u0323", "\u00E9", "\xFF", "\uAC00", "\u11A8", "u{41}", "{2}", "")
	eachOf("", list, 3, func(in string) { unquote(t, in) })
	unquote(t, "a"+marks(api.MaxSegment-1))
	unquote(t, strings.Repeat("*", api.MaxPattern/2))
	unquote(t, strings.Repeat("\u00E9", api.MaxPattern))
	patterns(1000, func(_ *dice, in string, _ []api.Node) { unquote(t, in) })
}

// P7.2, equivalent patterns: each of their pieces in every way to write it.
func TestEquivalentPatterns(t *testing.T) {
	ways := [][]string{
		{"\u00E9", "e\u0301"}, {"\u00E9\u0323", "e\u0301\u0323", "e\u0323\u0301", "\u1EB9\u0301"}, {"\u212B", "\u00C5", "A\u030A"}, {"\u212A", "K"}, {"\u2126", "\u03A9"}, {"\uAC01", "\u1100\u1161\u11A8", "\uAC00\u11A8"},
		{"*\u0301\u0323", "*\u0323\u0301"}, {"(\u0344", "(\u0308\u0301", "(\u0308\u0341"}, {"\\\u0340", "\\\u0300"}, {"\u2260", "=\u0338"}, {"\u1E69", "\u1E63\u0307", "s\u0323\u0307", "s\u0307\u0323"}, {"\xFF", "\uFFFD", "\xC0"},
		{"]\u0344", "]\u0308\u0301"}, {"a"}, {"("}, {")"}, {"|"}, {"*"}, {"["}, {"]"}, {"^"}, {"-"}, {"\\"}, {"."}, {"{2}"}, {"{3,2}"}, {"\\u{e9}"}, {"\\u{1EA4}"}, {"\\p{L}"}, {"[a-"}, {"[\\u{212a}-"},
		{"{\u0301\u0323", "{\u0323\u0301"}, {"a" + marks(63) + "\u0323", "a\u0323" + marks(63), "\u1EA1" + marks(63)}, {"a" + marks(62) + "\u0323", "\u1EA1" + marks(62), "\u00E1\u0323" + marks(61)},
	}
	d := dice(2)
	for range 20000 {
		var a, b string
		for range d.roll(9) {
			x := pick(&d, ways[:len(ways)-2*d.roll(2)]...)
			a += pick(&d, x...)
			b += pick(&d, x...)
		}
		if !seg.Same([]byte(a), []byte(b)) {
			t.Fatalf("%+q and %+q aren't equivalent", a, b)
		}
		same(t, a, parse(b))
		if Quote([]byte(a)) != Quote([]byte(b)) {
			t.Fatalf("Quote of %+q and %+q", a, b)
		}
	}
	patterns(3000, func(d *dice, in string, steps []api.Node) {
		same(t, norm.Text([]byte(in)), are(steps...))
	})
}

// R3: what is handed in is left as it is, its spare room too.
func TestArgumentsAreLeftAsTheyAre(t *testing.T) {
	for _, in := range []string{"", "a\u00E9|[^b-c\u00E9]*(\\u{e9}\\p{L}", "a{2,3}.", "*a", "\xE2\x82", "(((", "a" + marks(65), strings.Repeat("a", 5000)} {
		whole := []byte(in + "\x81)]}spare")
		was := slices.Clone(whole)
		Parse(whole[:len(in)])
		Quote(whole[:len(in)])
		if !slices.Equal(whole, was) {
			t.Errorf("%+q: %+q", was, whole)
		}
	}
	in := []byte("[^a-c\u00E9]ab*")
	steps, _, _ := Parse(in)
	quoted := Quote(in)
	clear(in)
	if !alike(steps, parse("[^a-c\u00E9]ab*").steps) || quoted != `\[\^a-ce`+"\u0301"+`\]ab\*` {
		t.Error("what was handed in is kept")
	}
}

// spoil writes over all that a list reaches.
func spoil[E any](l []E, with E) {
	l = l[:cap(l)]
	for i := range l {
		l[i] = with
	}
}

// R3: answers are new memory, their spare room too; no two lists of one share any.
func TestAnswersAreNew(t *testing.T) {
	for _, in := range []string{"..", "ab", "aa", `\p{L}\p{L}`, "[\u00E9a-c][\u00E9a-c]", "[^\u00E9a-c]*", `[\p{L}x]\P{L}[^\p{L}]`, "\u00E9\u00E9", "(.|a){2}.|[^a]"} {
		want := parse(in).steps
		wrong := api.Range{Lo: -7, Hi: 70}
		n := len(want)
		for i := range n {
			for field := range 3 {
				got := parse(in).steps
				switch s := got[i].Set; field {
				case 0:
					spoil(s.Single, wrong)
					got[i].Set.Single = want[i].Set.Single
				case 1:
					spoil(s.Multi, wrong)
					got[i].Set.Multi = want[i].Set.Multi
				default:
					spoil(s.Odd, "spoilt")
					got[i].Set.Odd = want[i].Set.Odd
				}
				if !alike(got, want) {
					t.Fatalf("%+q: two lists of an answer share memory: %s", in, told(got))
				}
			}
		}
		first := parse(in).steps
		second := parse(in).steps
		spoil(first, api.Node{Kind: 99})
		if !alike(second, want) {
			t.Fatalf("%+q: two answers share memory", in)
		}
		same(t, in, are(want...))
	}
}
