package lazy

import (
	"math"
	"slices"
	"testing"

	"trema/api"
	"trema/segset"
)

// rooms are those with which tables are gone through.
var rooms = []int{2, 3, 4, 7, api.MaxCache}

// The chapter's examples, and P11.1 at room 2.
func TestExamples(t *testing.T) {
	p := of(t, "a*b")
	m, e := New(p, 2)
	if e != api.OK || m.States() != 0 || m.Flushes() != 0 {
		t.Fatal(e)
	}
	if l, e := m.All(letters("aabab")); e != api.OK || !slices.Equal(l, spans(t, "0-3 3-5")) {
		t.Error(l, e)
	}
	if m.States() > 2 || m.States() < 1 {
		t.Error(m.States())
	}
	if m, e := New(p, 1); m != nil || e != api.ErrArg {
		t.Error(m, e)
	}
}

// P11.1, Longest: by hand, with each of begin and final, and with OpBegin and OpEnd at
// the beginning, in the middle, and at the end.
func TestLongest(t *testing.T) {
	const no = -1 // nothing is found
	for _, c := range []struct {
		pattern, window string
		at              int
		begin, final    bool
		end             int
		open            bool
	}{
		{"a*b", "aaba", 0, true, false, 3, false}, {"a*b", "aaba", 1, true, false, 3, false}, {"a*b", "aaba", 3, true, false, no, true}, {"a*b", "aaba", 3, true, true, no, false}, {"a*b", "aaba", 4, true, false, no, true}, {"a*b", "aaba", 4, true, true, no, false},
		{"", "", 0, false, false, 0, false}, {"", "ab", 1, true, true, 1, false}, {"", "ab", 2, false, false, 2, false}, {"a*", "b", 0, true, false, 0, false}, {"a*", "", 0, true, false, 0, true}, {"a*", "", 0, true, true, 0, false}, {"a*", "aaab", 1, true, true, 3, false}, {"a?", "ab", 2, true, false, 2, true},
		{"a|ab|abc", "abcd", 0, true, false, 3, false}, {"a|abc", "abd", 0, true, false, 1, false}, {"ab|abcd", "abce", 0, true, false, 2, false}, {"ab|abcd", "abc", 0, true, false, 2, true}, {"ab|abcd", "abc", 0, true, true, 2, false}, {"a(b*c)?", "abbbb", 0, true, false, 1, true}, {"a(b*c)?", "abbbbd", 0, true, false, 1, false}, {"a(b*c)?", "abbbbc", 0, true, false, 6, false},
		{"ab", "a", 0, true, false, no, true}, {"ab", "a", 0, true, true, no, false}, {"ab", "aa", 0, true, false, no, false}, {"ab", "ab", 0, true, false, 2, false}, {"ab*", "ab", 0, true, false, 2, true}, {"ab*", "ab", 0, true, true, 2, false}, {"a{2,3}", "aa", 0, true, false, 2, true}, {"a{2,3}", "aaa", 0, true, false, 3, false}, {"a{2,3}", "a", 0, true, false, no, true},
		// OpBegin.
		{"^", "", 0, true, false, 0, false}, {"^", "", 0, false, false, no, false}, {"^", "", 0, false, true, no, false}, {"^", "", 0, true, true, 0, false}, {"^", "a", 1, true, true, no, false}, {"^a", "aa", 0, true, false, 1, false}, {"^a", "aa", 0, false, false, no, false}, {"^a", "aa", 1, true, true, no, false}, {"^a", "", 0, false, false, no, false}, {"^a", "", 0, true, false, no, true}, {"a^b", "ab", 0, true, true, no, false}, {"a^", "a", 0, true, true, no, false}, {"(a|^)b", "ab", 0, true, true, 2, false}, {"(a|^)b", "b", 0, false, true, no, false}, {"(a|^)b", "bb", 1, true, true, no, false}, {"(^a)*", "aa", 0, true, true, 1, false}, {"(^a)*", "aa", 0, false, true, 0, false}, {"a|^ab", "ab", 0, true, false, 2, false}, {"a|^ab", "ab", 0, false, false, 1, false},
		// OpEnd.
		{"$", "", 0, true, false, no, true}, {"$", "", 0, false, true, 0, false}, {"$", "a", 0, true, true, no, false}, {"$", "a", 0, true, false, no, false}, {"$", "a", 1, true, false, no, true}, {"$", "a", 1, false, true, 1, false}, {"a$", "ab", 0, true, true, no, false}, {"a$", "aa", 0, true, true, no, false}, {"a$", "aa", 1, false, true, 2, false}, {"a$", "aa", 1, false, false, no, true}, {"a$b", "ab", 0, true, true, no, false}, {"a$b", "a", 0, true, true, no, false}, {"a$b", "a", 0, true, false, no, true}, {"$a", "a", 1, true, false, no, true}, {"a$|ab", "ab", 0, true, true, 2, false}, {"a|ab$", "ab", 0, true, false, 1, true}, {"a|ab$", "ab", 0, true, true, 2, false}, {"a|ab$", "abc", 0, true, false, 1, false}, {"(a$)*", "aa", 0, true, true, 0, false}, {"$$", "a", 1, true, true, 1, false},
		// Both: at the place 0 of no texts the end may let on to a beginning.
		{"^$", "", 0, true, true, 0, false}, {"^$", "", 0, true, false, no, true}, {"^$", "", 0, false, true, no, false}, {"^$", "", 0, false, false, no, false}, {"^$", "a", 0, true, true, no, false}, {"^$", "a", 1, true, true, no, false}, {"$^", "", 0, true, true, 0, false}, {"$^", "", 0, true, false, no, true}, {"$^", "", 0, false, false, no, true}, {"$^", "", 0, false, true, no, false}, {"$^", "a", 1, true, true, no, false}, {"a$^", "a", 0, true, true, no, false}, {"^a*$", "aa", 0, true, true, 2, false}, {"^a*$", "aa", 0, false, true, no, false}, {"^a*$", "aa", 0, true, false, no, true}, {"^a*$", "ab", 0, true, true, no, false},
	} {
		want := answer{end: c.end, found: true, open: c.open}
		if c.end == no {
			want.end, want.found = 0, false
		}
		for _, room := range rooms {
			w := watch(t, of(t, c.pattern), room)
			for _, q := range append(questions(letters(c.window)), ask{window: letters(c.window), at: c.at, begin: c.begin, final: c.final}) {
				if got := w.ask(q); !q.all && q.at == c.at && q.begin == c.begin && q.final == c.final && !same(got, want) {
					t.Errorf("%s: %v: %v, but should be %v", c.pattern, q, got, want)
				}
			}
		}
	}
}

// P11.1, All: by hand.
func TestAll(t *testing.T) {
	for _, c := range []struct{ pattern, texts, want string }{
		{"a|ab", "aba", "0-2 2-3"}, {"a*", "ba", "0-0 1-2 2-2"}, {"x", "ab", ""}, {"a", "", ""}, {"a", "bab", "1-2"}, {"a", "aaa", "0-1 1-2 2-3"}, {"ab", "ababxab", "0-2 2-4 5-7"}, {"aa", "aaaaa", "0-2 2-4"}, {"", "ab", "0-0 1-1 2-2"}, {"", "", "0-0"}, {"a*", "aab", "0-2 2-2 3-3"}, {"(ab)?", "abaab", "0-2 2-2 3-5 5-5"}, {"a|", "ba", "0-0 1-2 2-2"},
		{"^", "ab", "0-0"}, {"$", "ab", "2-2"}, {"$", "", "0-0"}, {"^$", "", "0-0"}, {"$^", "", "0-0"}, {"^$", "a", ""}, {"^|$", "ab", "0-0 2-2"}, {"^a", "aa", "0-1"}, {"a$", "aa", "1-2"}, {"^a|b$", "abab", "0-1 3-4"}, {"a*$", "aba", "2-3 3-3"}, {"(^a|b)*", "abba", "0-3 3-3 4-4"},
		{"abbc|b", "abbc", "0-4"}, {"abbc|b", "abbb", "1-2 2-3 3-4"}, {"abcd|bc|c", "abcx", "1-3"}, {"a.*z|b+", "abbab", "1-3 4-5"}, {"a|a.*b", "aacaa", "0-1 1-2 3-4 4-5"}, {"a|a.*b", "aacab", "0-5"}, {"(a.*b)?", "cac", "0-0 1-1 2-2 3-3"}, {"[^a]*a", "bbacca", "0-3 3-6"},
	} {
		for _, room := range rooms {
			w := watch(t, of(t, c.pattern), room)
			for _, q := range append(questions(letters(c.texts)), ask{window: letters(c.texts), all: true}) {
				if got := w.ask(q); q.all && !slices.Equal(got.spans, spans(t, c.want)) {
					t.Errorf("%s: %v: %v, but should be %s", c.pattern, q, got, c.want)
				}
			}
		}
	}
}

// P11.4: a nil machine.
func TestNil(t *testing.T) {
	var m *Machine
	for _, window := range [][]string{nil, {}, {"a"}, {"", "\xFF"}} {
		for _, at := range []int{0, len(window), -1, len(window) + 1} {
			for _, q := range append(flags(window, at), ask{window: window, all: true}) {
				if got := answered(m, q); !same(got, answer{e: api.ErrArg}) {
					t.Errorf("%v: %v", q, got)
				}
			}
		}
	}
	if m.States() != 0 || m.Flushes() != 0 {
		t.Error(m.States(), m.Flushes())
	}
}

// wrong are programs that may not be.
func wrong() map[string][]api.Instr {
	unlike := api.Instr{Op: api.OpSet, Set: api.Set{Single: []api.Range{{Lo: 'b', Hi: 'a'}}}}
	twice := goes(api.Set{Odd: []string{"ab", "ab"}})
	ill := goes(api.Set{Odd: []string{"\xFF\xFF"}})
	set, number := match, match
	set.Set, number.X = segset.All(), 1
	return map[string][]api.Instr{
		"none": nil, "empty": {}, "no match": {text("a")}, "no match behind": {match, text("a")}, "begin alone": {begins}, "end alone": {ends},
		"jump back": {jump(-1), match}, "jump on": {jump(2), match}, "jump far": {jump(math.MaxInt), match}, "jump far back": {jump(math.MinInt), match}, "X": {split(2, 0), match}, "Y": {split(0, 2), match}, "X back": {split(-1, 0), match}, "Y back": {split(0, -1), match}, "jump not reached": {jump(2), jump(9), match}, "behind a match": {match, split(0, 7), match},
		"set": {unlike, match}, "set of one twice": {twice, match}, "ill-formed set": {ill, match}, "set not reached": {jump(2), unlike, match}, "set of a match": {set}, "number of a match": {number}, "op 0": {{}, match}, "op 7": {{Op: 7}, match}, "op -1": {{Op: -1}, match}, "op far": {{Op: math.MaxInt}, match},
		"number of a begin": {{Op: api.OpBegin, Y: 1}, match}, "number of a set": {{Op: api.OpSet, X: 1, Set: segset.All()}, match}, "set of a jump": {{Op: api.OpJump, X: 1, Set: segset.All()}, match}, "Y of a jump": {{Op: api.OpJump, X: 1, Y: 1}, match}, "long": slices.Repeat([]api.Instr{match}, api.MaxWeight+1),
	}
}

// R1: programs that may not be, and rooms that are none.
func TestWrong(t *testing.T) {
	noRooms := []int{math.MinInt, -4096, -1, 0, 1, api.MaxCache + 1, 2 * api.MaxCache, 1<<32 + 2, math.MaxInt}
	right := []int{2, 3, 64, api.MaxCache - 1, api.MaxCache}
	for what, p := range wrong() {
		for _, room := range slices.Concat(noRooms, right) {
			if m, e := New(p, room); m != nil || e != api.ErrArg {
				t.Errorf("New of a wrong program (%s), room %d: %v", what, room, e)
			}
		}
	}
	many := slices.Repeat([]api.Instr{match}, api.MaxWeight)
	for _, p := range [][]api.Instr{{match}, {begins, match}, {ends, match}, {jump(0), match}, {split(0, 1), match}, {match, match}, {text(""), match}, {text("\xFF"), match}, many} {
		for _, room := range noRooms {
			if m, e := New(p, room); m != nil || e != api.ErrArg {
				t.Errorf("New of %s, room %d: %v", told(p), room, e)
			}
		}
		for _, room := range right {
			w := watch(t, p, room)
			for _, q := range slices.Concat(questions(nil), questions([]string{}), questions([]string{"", "\xFF", "a\u0301"})) {
				w.ask(q)
			}
		}
	}
}

// R1 and R6: places that are none. They change nothing.
func TestWrongPlaces(t *testing.T) {
	for _, pattern := range []string{"", "a", "a*b", "^", "$", "(a|.)*$"} {
		for _, room := range []int{2, api.MaxCache} {
			w := watch(t, of(t, pattern), room)
			for _, window := range [][]string{nil, {}, {"a"}, {"a", "", "\xFF"}, slices.Repeat([]string{"a"}, 300)} {
				n := len(window)
				states, flushes := w.m.States(), w.m.Flushes()
				for _, at := range []int{-1, -2, -n - 1, n + 1, n + 2, 2*n + 7, 1<<32 + n, -1 << 32, math.MinInt, math.MinInt + 1, math.MaxInt, math.MaxInt - 1} {
					for _, q := range flags(window, at) {
						if got := w.ask(q); !same(got, answer{e: api.ErrArg}) {
							t.Errorf("%s: %v: %v", pattern, q, got)
						}
					}
				}
				if w.m.States() != states || w.m.Flushes() != flushes {
					t.Errorf("%s: a place that is none makes states", pattern)
				}
				for _, q := range append(flags(window, 0), flags(window, n)...) {
					w.ask(q)
				}
			}
		}
	}
}
