package lazy

import (
	"slices"
	"testing"

	"trema/api"
)

// R1: programs and windows as large as they may be.
func TestLarge(t *testing.T) {
	row := slices.Repeat([]string{"a"}, api.MaxWindow)
	for _, room := range []int{2, 100, api.MaxCache} {
		heavy := watch(t, of(t, "((a?){64}){31}"), room)
		if got := heavy.ask(ask{window: row, at: 1, begin: true}); !same(got, answer{end: 31*64 + 1, found: true}) {
			t.Error("heavy", got)
		}
		if got := heavy.ask(ask{window: row[:100], begin: true}); !same(got, answer{end: 100, found: true, open: true}) {
			t.Error("heavy", got)
		}
		long := watch(t, of(t, "(a{64}){63}a{63}"), room) // 4096 instructions
		if got := long.ask(ask{window: row, begin: true}); !same(got, answer{end: 4095, found: true}) {
			t.Error("long", got)
		}
		if got := long.ask(ask{window: row[1:], at: 1, begin: true}); !same(got, answer{open: true}) {
			t.Error("long", got)
		}
	}
	chain := slices.Repeat([]api.Instr{match}, api.MaxWeight)
	for i := range len(chain) - 2 {
		chain[i] = split(i+1, (i+7)%len(chain))
	}
	chain[len(chain)-2] = jump(0)
	back := slices.Clone(chain)
	for i := range len(back) - 1 { // each reached from the one behind it
		back[i] = jump(max(i-1, 0))
	}
	back[0] = jump(len(back) - 2)
	for _, p := range [][]api.Instr{chain, back} {
		w := watch(t, p, 2)
		for _, q := range questions(row[:3]) {
			w.ask(q)
		}
	}
}

// R1: very many texts, with runs that look far behind each place: by states one run
// behind the other they would not end soon.
func TestManyTexts(t *testing.T) {
	many := slices.Repeat([]string{"a"}, 1<<15)
	for _, room := range []int{2, 3, api.MaxCache} {
		for pattern, want := range map[string]int{"a.*b": 0, "a*b": 0, "(a|aa)*c": 0, "(...)*b": 0, "(..)*b|(...)*c": 0, "ab|ac|aad": 0, "a*$b": 0, "a": 1 << 15, "": 1<<15 + 1, "b*": 1<<15 + 1, "a*": 2, "a{4}": 1 << 13, "a*$": 2, "^a": 1, "a$": 1} {
			m, _ := New(of(t, pattern), room)
			l, e := m.All(many)
			if len(l) != want || e != api.OK || m.States() < 1 || m.States() > room {
				t.Errorf("%s: room %d: %d spans, %v, %d states, but should be %d", pattern, room, len(l), e, m.States(), want)
			}
		}
	}
}

// A step that was gone once isn't worked out again, or states would be of no use: that
// would take many allocations here, as many as there are sets to be asked.
func TestStepsAreRemembered(t *testing.T) {
	m, _ := New(of(t, "(a|b|c|d|[ef]|[gh])*((a?){64}){10}"), api.MaxCache)
	row := slices.Repeat([]string{"a", "b", "e", "h", "a"}, 20)
	q := ask{window: row, begin: true}
	answered(m, q)
	if n := testing.AllocsPerRun(3, func() { answered(m, q) }); n > float64(4*len(row)) {
		t.Error(n, "allocations for", len(row), "texts")
	}
}
