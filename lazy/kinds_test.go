package lazy

import (
	"slices"
	"strings"
	"testing"

	"trema/api"
	"trema/segset"
	"trema/utf"
)

// R1: texts that no segment has, and those of several code points.
func TestTexts(t *testing.T) {
	const acute, ill = "e\u0301", "\xFF"
	for _, c := range []struct {
		pattern string
		window  []string
		want    string
	}{
		{".", []string{"", "a", ""}, "1-2"}, {".*", []string{"", "a", "", ""}, "0-0 1-2 2-2 3-3 4-4"}, {"", []string{"", ""}, "0-0 1-1 2-2"}, {"$", []string{""}, "1-1"}, {"^.", []string{"", "a"}, ""}, {"[^a]", []string{"", "a", "b"}, "2-3"},
		{".", []string{ill, "\xE2\x82", "\xFF\xFF"}, "0-1 1-2 2-3"}, {"\uFFFD", []string{ill, "\uFFFD", "a", "\xFF\xFF", "\xE2\x82", "\xE2\x82\xFF", "\xF0\x90\x80"}, "0-1 1-2 4-5 6-7"}, {"[^\uFFFD]", []string{ill, "\xFF\xFF"}, "1-2"},
		{acute, []string{"e", acute, "e\u0302", "\u00E9"}, "1-2"}, {"e", []string{"e", acute}, "0-1"}, {"[^" + acute + "]*", []string{"a", "e", acute, "e\u0302"}, "0-2 2-2 3-4 4-4"}, {`\p{L}+`, []string{"e", acute, "1", "ab"}, "0-2 3-4"}, {`[a-z]+`, []string{"e", acute, "1", "z"}, "0-1 3-4"}, {`\u{1100}`, []string{"\u1100", "\u1100\u1161"}, "0-1"}, {"\U00010348", []string{"\U00010348", "\U00010348\u0301", "\U00010349"}, "0-1"}, {"..", []string{"abc", "\u1100\u1161\u11A8", "x"}, "0-2"},
	} {
		for _, room := range rooms {
			w := watch(t, of(t, c.pattern), room)
			for _, q := range questions(c.window) {
				if got := w.ask(q); q.all && !slices.Equal(got.spans, spans(t, c.want)) {
					t.Errorf("%s: %v: %v, but should be %s", c.pattern, q, got, c.want)
				}
			}
		}
	}
}

// rolledSet is a normal set with edges all over some numbers.
func rolledSet(d *dice, odd []string) api.Set {
	var s api.Set
	for _, l := range []*[]api.Range{&s.Single, &s.Multi} {
		for range d.roll(6) {
			lo := int32(pick(d, 0, 0, 0x7D, 0x7FD, 0xFFF0, 0x10FFF0) + d.roll(16))
			*l = append(*l, api.Range{Lo: lo, Hi: lo + int32(pick(d, 0, 0, 1, 2, 5, 0x800))})
		}
	}
	for _, text := range odd {
		if d.roll(3) == 0 {
			s.Odd = append(s.Odd, text)
		}
	}
	return segset.Norm(s)
}

// edgeTexts are texts that begin with the numbers at which rolled sets have edges: those
// numbers alone, and with more behind them; many kinds, so that a state knows the way of
// some alone.
func edgeTexts() []string {
	l := []string{"", "\xFF", "\xE2\x82", "\xFF\xFF", "\xE2\x82a", "\xF0\x90\x80", "\xF0\x90\x80\x80\x80"}
	for _, lo := range []int32{0, 0x7B, 0x7FB, 0xFFEE, 0x10FFEE} {
		for r := lo; r < lo+20 && utf.Valid(r); r++ {
			one := string(utf.Encode([]int32{r}))
			l = append(l, one, one+"\u0301", one+"\u0301\u0302", one+"\xFF", one+one)
		}
	}
	return l
}

// P11.1: a machine knows each text's way from each state, in whatever order they come:
// programs of several sets each of which goes on by itself.
func TestKinds(t *testing.T) {
	d := dice(40)
	texts := edgeTexts()
	for i := range 60 {
		odd := []string{"\x00\u0301", "a\u0301", "ab", "\x7F\u0301", "\u0800\u0301", "\uFFFD\u0301", "\uFFFD\uFFFD", pick(&d, texts...), pick(&d, texts...)}
		const ways = 8
		var p []api.Instr
		for k := range ways { // the k-th set, and behind it a text that no other goes on with
			p = append(p, split(3*k+1, 3*k+3), goes(rolledSet(&d, odd)), jump(3*ways+2*k))
		}
		for k := range ways {
			p = append(p, goes(segset.Of(string(rune('0'+k)))), match)
		}
		w := watch(t, p, pick(&d, 2, 3, 40, api.MaxCache))
		for range 2 {
			shuffle(&d, texts)
			for _, x := range texts {
				behind := string(rune('0' + d.roll(ways)))
				w.ask(ask{window: []string{x, behind}, begin: i%2 == 0, final: d.roll(2) == 0})
				if d.roll(8) == 0 {
					w.ask(ask{window: []string{pick(&d, texts...), behind, x, behind}, all: true})
				}
			}
		}
	}
}

// P11.1: more kinds of texts than a state knows the ways of, each going somewhere else.
func TestManyKinds(t *testing.T) {
	const n = 300
	var p []api.Instr
	for i := range n {
		p = append(p, split(4*i+1, 4*i+4), text(string(rune(0x100+2*i))), text(string(rune(0x100+2*i))+"\u0301"), match)
	}
	p = append(p, match)
	for _, room := range []int{2, 10, api.MaxCache} {
		w := watch(t, p, room)
		d := dice(41)
		for range 1500 {
			r := rune(0x100 + d.roll(2*n))
			q := ask{window: []string{string(r), string(r) + "\u0301"}, begin: true}
			if got := w.ask(q); got.end != 2-2*int(r%2) {
				t.Fatalf("%v: %v", q, got)
			}
		}
	}
}

// A machine keeps no more for many unlike texts than for few: the ways that a state knows
// are counted.
func TestUnlikeTexts(t *testing.T) {
	m, _ := New(of(t, `(\p{L}|e\u{301}|[a-z])*`), api.MaxCache)
	for r := rune(0x20); r < 0x3000; r++ {
		for _, x := range []string{string(r), string(r) + "\u0301"} {
			m.Longest([]string{"a", x, strings.Repeat(x, 3)}, 0, true, false)
		}
	}
	if m.States() > 20 || m.Flushes() != 0 {
		t.Error(m.States(), "states", m.Flushes(), "flushes")
	}
}
