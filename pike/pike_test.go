package pike

import (
	"math"
	"slices"
	"strings"
	"testing"

	"trema/api"
	"trema/segset"
)

// P10.1, Longest: the chapter's examples, and all edges of matches and runs.
func TestLongest(t *testing.T) {
	const no = -1 // nothing is found
	for _, c := range []struct {
		pattern, window string
		at              int
		begin, final    bool
		end             int
		open            bool
	}{
		// The chapter's examples.
		{"a*b", "aaba", 0, true, false, 3, false}, {"a*b", "aaba", 1, true, false, 3, false}, {"a*b", "aaba", 3, true, false, no, true}, {"a*b", "aaba", 3, true, true, no, false},
		{"^a", "aa", 1, true, true, no, false}, {"a$", "a", 0, true, true, 1, false}, {"a$", "a", 0, true, false, no, true},
		// Matches that are empty: of nothing at all, and of what may be left out.
		{"", "", 0, false, false, 0, false}, {"", "", 0, true, true, 0, false}, {"", "ab", 0, true, false, 0, false}, {"", "ab", 1, true, true, 1, false}, {"", "ab", 2, false, false, 2, false},
		{"a*", "b", 0, true, false, 0, false}, {"a*", "", 0, true, false, 0, true}, {"a*", "", 0, true, true, 0, false}, {"a?", "ab", 1, true, false, 1, false}, {"a?", "ab", 2, true, false, 2, true}, {"(|a)", "b", 1, true, true, 1, false},
		// A longest match behind shorter ones.
		{"a|ab|abc", "abcd", 0, true, false, 3, false}, {"abc|ab|a", "abcd", 0, true, false, 3, false}, {"a|ab|abc", "abd", 0, true, false, 2, false}, {"a|abc", "abc", 0, true, false, 3, false}, {"(a|aa|aaa)(b|ab|)", "aaab", 0, true, false, 4, false}, {"a*", "aaab", 1, true, true, 3, false}, {"(a|ab)(c|bcd)", "abcd", 0, true, true, 4, false}, {"|a|aa", "aa", 0, true, true, 2, false},
		// One behind a piece that can't be finished.
		{"ab|abcd", "abce", 0, true, false, 2, false}, {"ab|abcd", "abc", 0, true, false, 2, true}, {"ab|abcd", "abc", 0, true, true, 2, false}, {"(ab)*", "ababac", 0, true, false, 4, false}, {"a(b*c)?", "abbbb", 0, true, true, 1, false}, {"a(b*c)?", "abbbb", 0, true, false, 1, true}, {"a(b*c)?", "abbbbd", 0, true, false, 1, false}, {"a(b*c)?", "abbbbc", 0, true, false, 6, false}, {"(ab*c)?", "abbb", 0, true, true, 0, false},
		// Runs that are open, and that aren't, without a match.
		{"ab", "a", 0, true, false, no, true}, {"ab", "a", 0, true, true, no, false}, {"ab", "aa", 0, true, false, no, false}, {"ab", "", 0, true, false, no, true}, {"ab", "", 0, true, true, no, false}, {"ab", "ab", 2, true, false, no, true}, {"ab", "ab", 1, true, false, no, false}, {"ab", "aa", 1, true, false, no, true}, {"a*b", "aaa", 0, false, false, no, true}, {"a*b", "aac", 0, false, false, no, false},
		// With one, whose end is the window's or not.
		{"ab", "ab", 0, true, false, 2, false}, {"ab*", "ab", 0, true, false, 2, true}, {"ab*", "ab", 0, true, true, 2, false}, {"ab*", "abc", 0, true, false, 2, false}, {"a|ab", "a", 0, true, false, 1, true}, {"a|ab", "ac", 0, true, false, 1, false}, {"a{2,3}", "aa", 0, true, false, 2, true}, {"a{2,3}", "aaa", 0, true, false, 3, false}, {"a{2,3}", "aaaa", 0, true, false, 3, false}, {"a{2,3}", "a", 0, true, false, no, true},
		// OpBegin: at the beginning, in the middle, at the end; it never holds a run open.
		{"^", "", 0, true, false, 0, false}, {"^", "", 0, false, false, no, false}, {"^", "", 0, false, true, no, false}, {"^", "", 0, true, true, 0, false}, {"^", "a", 0, true, true, 0, false}, {"^", "a", 1, true, true, no, false}, {"^a", "aa", 0, true, false, 1, false}, {"^a", "aa", 0, false, false, no, false}, {"^a", "", 0, false, false, no, false}, {"^a", "", 0, true, false, no, true},
		{"a^b", "ab", 0, true, true, no, false}, {"a^b", "a", 0, true, false, no, false}, {"a^", "a", 0, true, true, no, false}, {"(a|^)b", "ab", 0, true, true, 2, false}, {"(a|^)b", "b", 0, true, true, 1, false}, {"(a|^)b", "b", 0, false, true, no, false}, {"(a|^)b", "bb", 1, true, true, no, false}, {"^^a", "a", 0, true, true, 1, false}, {"(^a)*", "aa", 0, true, true, 1, false}, {"(^a)*", "aa", 0, false, true, 0, false}, {"a|^ab", "ab", 0, true, false, 2, false}, {"a|^ab", "ab", 0, false, false, 1, false},
		// OpEnd: the same, but that it does.
		{"$", "", 0, true, false, no, true}, {"$", "", 0, false, true, 0, false}, {"$", "", 0, true, true, 0, false}, {"$", "a", 0, true, true, no, false}, {"$", "a", 0, true, false, no, false}, {"$", "a", 1, true, false, no, true}, {"$", "a", 1, false, true, 1, false}, {"a$", "ab", 0, true, true, no, false}, {"a$", "aa", 0, true, true, no, false}, {"a$", "aa", 1, false, true, 2, false}, {"a$", "aa", 1, false, false, no, true},
		{"a$b", "ab", 0, true, true, no, false}, {"a$b", "a", 0, true, true, no, false}, {"a$b", "a", 0, true, false, no, true}, {"$a", "a", 0, true, true, no, false}, {"$a", "a", 1, true, false, no, true}, {"a$|ab", "ab", 0, true, true, 2, false}, {"a$|ab", "ac", 0, true, true, no, false}, {"a$|ab", "a", 0, true, true, 1, false}, {"a|ab$", "ab", 0, true, false, 1, true}, {"a|ab$", "ab", 0, true, true, 2, false}, {"a|ab$", "abc", 0, true, false, 1, false}, {"(a$)*", "a", 0, true, true, 1, false}, {"(a$)*", "aa", 0, true, true, 0, false}, {"$$", "a", 1, true, true, 1, false},
		// Both.
		{"^$", "", 0, true, true, 0, false}, {"^$", "", 0, true, false, no, true}, {"^$", "", 0, false, true, no, false}, {"^$", "", 0, false, false, no, false}, {"^$", "a", 0, true, true, no, false}, {"^$", "a", 1, true, true, no, false}, {"$^", "", 0, true, true, 0, false}, {"$^", "", 0, false, false, no, true}, {"$^", "", 0, false, true, no, false}, {"^a*$", "aa", 0, true, true, 2, false}, {"^a*$", "aa", 0, false, true, no, false}, {"^a*$", "aa", 0, true, false, no, true}, {"^a*$", "ab", 0, true, true, no, false},
	} {
		want := answer{c.end, true, c.open, api.OK}
		if c.end == no {
			want.end, want.found = 0, false
		}
		p := of(t, c.pattern)
		if got := longest(p, ask{letters(c.window), c.at, c.begin, c.final}); got != want {
			t.Errorf("Longest(%s, %s, %d, %v, %v): %v, but should be %v", c.pattern, c.window, c.at, c.begin, c.final, got, want)
		}
		sameAsSaid(t, p, letters(c.window))
	}
}

// P10.1, All: the chapter's examples; spans one right behind the other, empty ones among
// them, and spans that are found while others could still begin earlier.
func TestAll(t *testing.T) {
	for _, c := range []struct{ pattern, texts, want string }{
		{"a|ab", "aba", "0-2 2-3"}, {"a*", "ba", "0-0 1-2 2-2"}, // the chapter's
		{"x", "ab", ""}, {"x", "", ""}, {"a", "", ""}, {"a", "a", "0-1"}, {"a", "aaa", "0-1 1-2 2-3"}, {"a", "bab", "1-2"}, {"ab", "ababxab", "0-2 2-4 5-7"}, {"aa", "aaaaa", "0-2 2-4"}, {"a+", "aabaab", "0-2 3-5"}, {"a+", "aaaa", "0-4"},
		{"", "", "0-0"}, {"", "ab", "0-0 1-1 2-2"}, {"a*", "", "0-0"}, {"a*", "aab", "0-2 2-2 3-3"}, {"a*", "baac", "0-0 1-3 3-3 4-4"}, {"a?", "aab", "0-1 1-2 2-2 3-3"}, {"(ab)?", "abaab", "0-2 2-2 3-5 5-5"}, {"(aa)*", "aaab", "0-2 2-2 3-3 4-4"}, {"a|", "ba", "0-0 1-2 2-2"},
		{"^", "ab", "0-0"}, {"$", "ab", "2-2"}, {"$", "", "0-0"}, {"^$", "", "0-0"}, {"^$", "a", ""}, {"^|$", "ab", "0-0 2-2"}, {"^|$", "", "0-0"}, {"^a", "aa", "0-1"}, {"a$", "aa", "1-2"}, {"^a|b$", "abab", "0-1 3-4"}, {"^a*", "aab", "0-2"}, {"a*$", "aba", "2-3 3-3"}, {"a*$", "aab", "3-3"}, {"(^a|b)*", "abba", "0-3 3-3 4-4"}, {"(a|^)b", "bab", "0-1 1-3"},
		// The least s, though a greater one is found sooner, or reaches further.
		{"abbc|b", "abbc", "0-4"}, {"abbc|b", "abbb", "1-2 2-3 3-4"}, {"abbc|bb|b", "abbb", "1-3 3-4"}, {"abcd|bc|c", "abcd", "0-4"}, {"abcd|bc|c", "abcx", "1-3"}, {"abcde|bcd|c", "abcdx", "1-4"}, {"abcde|bcd|c", "abcx", "2-3"}, {"abcde|bcd|c", "abcde", "0-5"}, {"ab|bcdefg", "abcdefg", "0-2"}, {"ab|bcdefg", "xbcdefg", "1-7"}, {"a.*z|b", "abbbz", "0-5"}, {"a.*z|b", "abbb", "1-2 2-3 3-4"}, {"a.*z|b+", "abbab", "1-3 4-5"},
		// The greatest e, though behind it nothing can be finished.
		{"a|a.*b", "aacaa", "0-1 1-2 3-4 4-5"}, {"a|a.*b", "aacab", "0-5"}, {"a|a.*b", "aabaa", "0-3 3-4 4-5"}, {"(a.*b)?", "cac", "0-0 1-1 2-2 3-3"}, {"(a.*b)?", "cab", "0-0 1-3 3-3"},
		// What two begin as one goes on for the earlier one.
		{"a*b", "aaab", "0-4"}, {"a*b|c", "aacab", "2-3 3-5"}, {"(a|b)*c", "ababc", "0-5"}, {"(a|b)*c", "abab", ""}, {".*", "ab", "0-2 2-2"}, {".", "ab", "0-1 1-2"}, {".{2}", "abc", "0-2"}, {".{2}|.$", "abc", "0-2 2-3"}, {"[^a]*a", "bbacca", "0-3 3-6"},
	} {
		p := of(t, c.pattern)
		if got, e := All(p, letters(c.texts)); e != api.OK || !slices.Equal(got, spans(t, c.want)) {
			t.Errorf("All(%s, %s): %v %v, but should be %s", c.pattern, c.texts, got, e, c.want)
		}
		sameAsSaid(t, p, letters(c.texts))
	}
}

// P10.1, Whole: the chapter's example; what is just a piece isn't all, and what begins
// as all does neither.
func TestWhole(t *testing.T) {
	for _, c := range []struct {
		pattern, texts string
		want           bool
	}{
		{"(ab)*", "abab,ab,", true}, {"(ab)*", "aba,abb,b,ababb", false}, {"", "", true}, {"", "a,aa", false}, {"a", "a", true}, {"a", ",aa,ba,b,ab", false}, {"a|ab", "a,ab", true}, {"a|ab", ",aba,b", false}, {"ab|a", "a,ab", true}, {"ab|a", ",aba,b", false}, {"a*", ",a,aaa", true}, {"a*", "b,ab,aab,ba", false},
		{"^a$", "a", true}, {"^a$", ",aa,b", false}, {"^", "", true}, {"^", "a", false}, {"$", "", true}, {"$", "a", false}, {"^$", "", true}, {"^$", "a,aa", false}, {"a^", ",a,aa", false}, {"$a", ",a,aa", false}, {"^a|b$", "a,b", true}, {"^a|b$", ",ab,ba", false}, {"a.*|b", "a,ab,aaa,b", true}, {"a.*|b", ",ba,bb", false},
	} {
		p := of(t, c.pattern)
		for _, x := range strings.Split(c.texts, ",") {
			if got, e := Whole(p, letters(x)); e != api.OK || got != c.want {
				t.Errorf("Whole(%s, %s): %v %v", c.pattern, x, got, e)
			}
		}
	}
}

// P10.1 and P10.4, Steps: counted by hand.
func TestSteps(t *testing.T) {
	for _, c := range []struct {
		p            []api.Instr
		window       string
		at           int
		begin, final bool
		want         int
	}{
		{of(t, ""), "", 0, true, true, 1}, {of(t, ""), "aa", 0, true, true, 1}, {of(t, ""), "aa", 2, true, true, 1},
		{of(t, "ab"), "ab", 0, true, true, 3}, {of(t, "ab"), "ab", 1, true, true, 1}, {of(t, "ab"), "ab", 2, true, true, 1}, {of(t, "ab"), "abab", 0, true, true, 3}, {of(t, "ab"), "aab", 0, true, true, 2}, {of(t, "ab"), "aab", 1, true, true, 3},
		{of(t, "a*"), "", 0, true, true, 3}, {of(t, "a*"), "aaa", 0, false, false, 15}, {of(t, "a*"), "aaa", 1, false, false, 11}, {of(t, "a*"), "aaa", 3, false, false, 3}, {of(t, "a*"), "baa", 0, false, false, 3}, {of(t, "a*"), "aab", 0, false, false, 11},
		{of(t, "a|ab"), "ab", 0, true, true, 7}, // split, a, a; jump, match, b; match
		{of(t, "a|ab"), "abb", 0, true, true, 7},
		{of(t, "^$"), "", 0, false, false, 1}, {of(t, "^$"), "", 0, true, false, 2}, {of(t, "^$"), "", 0, false, true, 1}, {of(t, "^$"), "", 0, true, true, 3}, {of(t, "^$"), "a", 0, true, true, 2}, {of(t, "^$"), "a", 1, true, true, 1}, {of(t, "a$"), "a", 0, true, false, 2}, {of(t, "a$"), "a", 0, true, true, 3}, {of(t, "a$"), "aa", 0, true, true, 2},
		// All instructions at each place but the first, where the jump back isn't reached.
		{of(t, "(a|aa)*"), "aaaaa", 0, true, true, 50 - 2 - 3},
		{[]api.Instr{jump(1), jump(0), match}, "aa", 0, true, true, 2}, {[]api.Instr{split(0, 0), match}, "aa", 0, true, true, 1}, {[]api.Instr{split(2, 2), set("a"), jump(1), match}, "aa", 0, true, true, 3 + 2 + 2},
		{[]api.Instr{split(1, 3), match, set("b"), match}, "aa", 0, true, true, 3}, {[]api.Instr{set("a"), jump(0), match}, "aaaa", 1, true, true, 1 + 3*2},
	} {
		if got := Steps(c.p, letters(c.window), c.at, c.begin, c.final); got != c.want {
			t.Errorf("%s: Steps(%s, %d, %v, %v) %d, but should be %d", told(c.p), c.window, c.at, c.begin, c.final, got, c.want)
		}
		sameAsSaid(t, c.p, letters(c.window))
	}
}

// R1: texts that no segment has, and those of several code points.
func TestTexts(t *testing.T) {
	const acute, ill = "e\u0301", "\xFF"
	for _, c := range []struct {
		pattern string
		window  []string
		want    string
	}{
		{".", []string{"", "a", ""}, "1-2"}, {".*", []string{"", "a", "", ""}, "0-0 1-2 2-2 3-3 4-4"}, {"", []string{"", ""}, "0-0 1-1 2-2"}, {"$", []string{""}, "1-1"}, {"^.", []string{"", "a"}, ""}, {"[^a]", []string{"", "a", "b"}, "2-3"}, {`\P{L}`, []string{"", "1"}, "1-2"},
		{".", []string{ill, "\xE2\x82", "\xFF\xFF"}, "0-1 1-2 2-3"}, {"\uFFFD", []string{ill, "\uFFFD", "a", "\xFF\xFF"}, "0-1 1-2"}, {"[^\uFFFD]", []string{ill, "\xFF\xFF"}, "1-2"},
		{acute, []string{"e", acute, "e\u0302", "\u00E9"}, "1-2"}, {"\u00E9", []string{"e", acute, "e\u0302", "\u00E9"}, "1-2"}, {"e", []string{"e", acute}, "0-1"}, {"[^" + acute + "]*", []string{"a", "e", acute, "e\u0302"}, "0-2 2-2 3-4 4-4"}, {`\p{L}+`, []string{"e", acute, "1", "ab"}, "0-2 3-4"}, {`[a-z]+`, []string{"e", acute, "1", "z"}, "0-1 3-4"}, {`\u{1100}`, []string{"\u1100", "\u1100\u1161"}, "0-1"}, {"..", []string{"abc", "\u1100\u1161\u11A8", "x"}, "0-2"},
	} {
		p := of(t, c.pattern)
		if got, e := All(p, c.window); e != api.OK || !slices.Equal(got, spans(t, c.want)) {
			t.Errorf("All(%s, %q): %v %v, but should be %s", c.pattern, c.window, got, e, c.want)
		}
		sameAsSaid(t, p, c.window)
	}
}

// refused sees to it that each call answers ErrArg and nothing else.
func refused(t *testing.T, what string, p []api.Instr, q ask, place bool) {
	t.Helper()
	if got := longest(p, q); got != (answer{e: api.ErrArg}) {
		t.Errorf("%s: Longest %v %v", what, q, got)
	}
	if n := Steps(p, q.window, q.at, q.begin, q.final); n != 0 {
		t.Errorf("%s: Steps %v %d", what, q, n)
	}
	if place {
		return // it is no matter to the others
	}
	if l, e := All(p, q.window); len(l) > 0 || e != api.ErrArg {
		t.Errorf("%s: All %q %v %v", what, q.window, l, e)
	}
	if is, e := Whole(p, q.window); is || e != api.ErrArg {
		t.Errorf("%s: Whole %q %v %v", what, q.window, is, e)
	}
}

// P10.1 and R1: programs that may not be, over any window, from any place.
func TestWrongPrograms(t *testing.T) {
	odd := api.Instr{Op: api.OpSet, Set: api.Set{Single: []api.Range{{Lo: 'b', Hi: 'a'}}}}
	twice := api.Instr{Op: api.OpSet, Set: api.Set{Odd: []string{"ab", "ab"}}}
	ill := api.Instr{Op: api.OpSet, Set: api.Set{Odd: []string{"\xFF\xFF"}}}
	long := slices.Repeat([]api.Instr{match}, api.MaxWeight+1)
	setted, numbered := match, match
	setted.Set, numbered.X = segset.All(), 1
	for what, p := range map[string][]api.Instr{
		"none": nil, "empty": {}, "no match": {set("a")}, "no match behind": {match, set("a")}, "a match and a jump": {match, jump(0)}, "a set behind": {set("a"), match, set("a")}, "begin alone": {begins}, "end alone": {ends},
		"jump back": {jump(-1), match}, "jump on": {jump(2), match}, "jump far": {jump(math.MaxInt), match}, "jump far back": {jump(math.MinInt), match}, "X": {split(2, 0), match}, "Y": {split(0, 2), match}, "X back": {split(-1, 0), match}, "Y back": {split(0, -1), match}, "Y far": {split(1, math.MaxInt), match}, "jump not reached": {jump(2), jump(9), match}, "behind a match": {match, split(0, 7), match},
		"set": {odd, match}, "set of one twice": {twice, match}, "ill-formed set": {ill, match}, "set not reached": {jump(2), odd, match}, "set of a match": {setted}, "number of a match": {numbered}, "op 0": {{}, match}, "op 7": {{Op: 7}, match}, "op -1": {{Op: -1}, match}, "op 258": {{Op: 256 + api.OpSplit}, match}, "op far": {{Op: math.MaxInt}, match},
		"number of a begin": {{Op: api.OpBegin, Y: 1}, match}, "number of a set": {{Op: api.OpSet, X: 1, Set: segset.All()}, match}, "set of a jump": {{Op: api.OpJump, X: 1, Set: segset.All()}, match}, "set of an end": {{Op: api.OpEnd, Set: segset.All()}, match}, "Y of a jump": {{Op: api.OpJump, X: 1, Y: 1}, match}, "long": long,
	} {
		for _, window := range [][]string{nil, {}, {"a"}, {"", "\xFF", "a\u0301"}} {
			for _, at := range []int{0, len(window), -1, len(window) + 1, math.MinInt, math.MaxInt} {
				for _, q := range flags(window, at) {
					refused(t, what, p, q, false)
				}
			}
		}
	}
	for _, p := range [][]api.Instr{long[:api.MaxWeight], {match}, {begins, match}, {ends, match}, {jump(0), match}, {split(0, 1), match}, {match, match}, {set(""), match}, {set("\xFF"), match}} {
		sameAsSaid(t, p, []string{"", "\xFF", "a\u0301"})
	}
}

// P10.1 and R1: places that are none, with programs that may be.
func TestWrongPlaces(t *testing.T) {
	for _, pattern := range []string{"", "a", "a*b", "^", "$", "(a|.)*$"} {
		p := of(t, pattern)
		for _, window := range [][]string{nil, {}, {"a"}, {"a", "", "\xFF"}, slices.Repeat([]string{"a"}, 300)} {
			n := len(window)
			for _, at := range []int{-1, -2, -n - 1, n + 1, n + 2, 2*n + 7, 1<<32 + n, -1 << 32, math.MinInt, math.MinInt + 1, math.MaxInt, math.MaxInt - 1} {
				for _, q := range flags(window, at) {
					refused(t, pattern, p, q, true)
				}
			}
			for _, at := range []int{0, n} {
				if got := longest(p, ask{window, at, true, true}); got.e != api.OK {
					t.Errorf("%s: place %d of %d: %v", pattern, at, n, got)
				}
			}
		}
	}
}

// P10.1 and R1: programs and windows as large as they may be. What begins at each of
// very many places goes on side by side, or a search through them would not end soon.
func TestLarge(t *testing.T) {
	const n = api.MaxWindow
	row := slices.Repeat([]string{"a"}, n)
	heavy := of(t, "((a?){64}){31}")
	if got := longest(heavy, ask{row, 1, true, false}); got != (answer{31*64 + 1, true, false, api.OK}) {
		t.Error("heavy", got)
	}
	if got := longest(heavy, ask{row[:100], 0, true, false}); got != (answer{100, true, true, api.OK}) {
		t.Error("heavy", got)
	}
	chain := slices.Repeat([]api.Instr{match}, api.MaxWeight)
	for i := range len(chain) - 2 {
		chain[i] = split(i+1, (i+7)%len(chain))
	}
	chain[len(chain)-2] = set("a")
	chain[len(chain)-1] = match
	if got := Steps(chain, row, 0, true, true); got != len(chain)+1 {
		t.Error("chain", got)
	}
	chain[len(chain)-3] = set("a")
	chain[len(chain)-2] = jump(0)
	if got, most := Steps(chain, row[:60], 0, true, true), 61*len(chain); got != most { // P10.4: no more than so many
		t.Error("loop", got)
	}
	many := slices.Repeat([]string{"a"}, 1<<17)
	for _, pattern := range []string{"a.*b", "a*b", "(a|aa)*c", "ab|ac|aad", "a*$b"} {
		if l, e := All(of(t, pattern), many); len(l) > 0 || e != api.OK {
			t.Errorf("%s: %d spans, %v", pattern, len(l), e)
		}
	}
	for pattern, want := range map[string]int{"a": 1 << 17, "": 1<<17 + 1, "b*": 1<<17 + 1, "a*": 2, "a{4}": 1 << 15, "a*$": 2, "^a": 1, "a$": 1} {
		if l, e := All(of(t, pattern), many); len(l) != want || e != api.OK {
			t.Errorf("%s: %d spans, %v, but should be %d", pattern, len(l), e, want)
		}
	}
}
