package lazy

import (
	"slices"
	"testing"

	"trema/api"
	"trema/segset"
)

// kindsOfInstr are all instructions that stand in programs of n, but the last one.
func kindsOfInstr(n int) []api.Instr {
	l := []api.Instr{text("a"), text("b"), begins, ends, match}
	for x := range n {
		l = append(l, jump(x))
		for y := range n {
			l = append(l, split(x, y))
		}
	}
	return l
}

// P11.1 to P11.3: every program of up to two instructions and a match over all short
// windows, and of three over some of them: each asked all questions of a window, one
// behind the other.
func TestEveryProgram(t *testing.T) {
	windows := append(rows(3, "a", "b"), []string{"c", "a"}, []string{"a", "c", "b"}, []string{"a", "a", "b", "a"})
	d := dice(20)
	over := func(p []api.Instr, windows [][]string) {
		for _, room := range []int{2, 3, api.MaxCache} {
			w := watch(t, p, room)
			for _, x := range windows {
				for _, q := range questions(x) {
					w.ask(q)
				}
			}
		}
	}
	over([]api.Instr{match}, windows)
	for _, x := range kindsOfInstr(2) {
		over([]api.Instr{x, match}, windows)
	}
	for _, x := range kindsOfInstr(3) {
		for _, y := range kindsOfInstr(3) {
			over([]api.Instr{x, y, match}, windows)
		}
	}
	for _, x := range kindsOfInstr(4) {
		for _, y := range kindsOfInstr(4) {
			for range 6 {
				from := d.roll(len(windows) - 1)
				over([]api.Instr{x, y, pick(&d, kindsOfInstr(4)...), match}, windows[from:from+2])
			}
		}
	}
}

// rolledProgram is a program of n instructions, many of them on a way from 0.
func rolledProgram(d *dice, n int) []api.Instr {
	sets := []api.Set{segset.All(), segset.Not(segset.Of("a")), segset.Not(segset.Of("e\u0301")), segset.First([]api.Range{{Lo: 'b', Hi: 'z'}})}
	p := make([]api.Instr, n)
	for i := range n - 1 {
		near := min(n-1, max(0, i+d.roll(9)-2))
		switch d.roll(9) {
		case 0, 1, 2:
			p[i] = text(pick(d, "a", "a", "b", "e\u0301"))
		case 3:
			p[i] = goes(pick(d, sets...))
		case 4, 5:
			p[i] = split(i+1, near)
		case 6:
			p[i] = split(near, d.roll(n))
		case 7:
			p[i] = pick(d, jump(near), jump(d.roll(n)))
		default:
			p[i] = pick(d, begins, ends, ends, match)
		}
	}
	p[n-1] = match
	return p
}

// rolledTexts are texts of all kinds.
func rolledTexts(d *dice, n int) []string {
	l := make([]string, n)
	for i := range l {
		l[i] = pick(d, "a", "a", "a", "a", "b", "b", "e\u0301", "e", "e\u0302", "1", "ab", "", "\xFF", "\xFF\xFF", "\uFFFD")
	}
	return l
}

// rolledLetters are texts of two kinds.
func rolledLetters(d *dice, n int) []string {
	l := make([]string, n)
	for i := range l {
		l[i] = pick(d, "a", "b")
	}
	return l
}

// rolledQuestion is a question of any kind.
func rolledQuestion(d *dice) ask {
	window := rolledTexts(d, d.roll(12))
	if d.roll(2) == 0 {
		window = rolledLetters(d, d.roll(12))
	}
	if d.roll(5) == 0 {
		return ask{window: window, all: true}
	}
	return ask{window: window, at: d.roll(len(window) + 1), begin: d.roll(2) == 0, final: d.roll(2) == 0}
}

// P11.1 to P11.3: longer programs and longer windows, with any room, each question behind
// others of any kind.
func TestRolledPrograms(t *testing.T) {
	d := dice(21)
	found := 0
	for i := range 2500 {
		p := rolledProgram(&d, 2+d.roll(20))
		if i%100 == 0 { // whose sets' bits stand in many words
			p = rolledProgram(&d, 200+d.roll(api.MaxWeight-200))
		}
		w := watch(t, p, pick(&d, 2, 2, 3, 4, 6, 10, 100, api.MaxCache))
		for range 20 {
			q := rolledQuestion(&d)
			if d.roll(20) == 0 {
				q.at = pick(&d, -1, len(q.window)+1)
			}
			if got := w.ask(q); got.found && got.end > q.at {
				found++
			}
		}
	}
	if found < 2000 {
		t.Error("too few of them find anything of note", found)
	}
}

// P11.1 to P11.3: programs of patterns.
func TestPatterns(t *testing.T) {
	d := dice(22)
	for _, x := range []string{"", "a*b", "a|ab|e\u0301", "(a|b)*a(a|b){2}", "^a|b$", "^(a|b)*$", "(^a|b$)*", "($|a)b*", `\p{L}+`, `\P{L}|ab`, "[^a]*a", "(.*a)?", "a.*b|e", "(..)*b|(...)*a", "(a?){6}", "((a|b){2,3}e\u0301?)*", "[a-e]\u00E9", "^$", "($^|a)*"} {
		p := of(t, x)
		var asked []ask
		for _, window := range rows(3, "a", "b", "e\u0301") {
			asked = append(asked, questions(window)...)
		}
		for range 100 {
			asked = append(asked, rolledQuestion(&d))
		}
		for _, room := range []int{2, 3, 5, 9, api.MaxCache} {
			shuffle(&d, asked)
			w := watch(t, p, room)
			for _, q := range asked {
				w.ask(q)
			}
		}
	}
}

// P11.1, All: over longer texts, some of which take more patience than there is.
func TestLongTexts(t *testing.T) {
	d := dice(23)
	for _, x := range []string{"a*b", "a.*b|c", "a.*c", "(a|b)*c", "b.*z|ab", "(a.*c)?", "(..)*c|ab", "a*$b", "ab|ba", "a{1,40}b", "(a|b){0,60}c?$", "."} {
		p := of(t, x)
		for _, n := range []int{31, 32, 33, 64, 200, 1000} {
			texts := rolledLetters(&d, n)
			for _, room := range []int{2, 6, api.MaxCache} {
				w := watch(t, p, room)
				w.ask(ask{window: texts, all: true})
				w.ask(ask{window: append(slices.Clone(texts), "c"), all: true})
				w.ask(ask{window: texts, at: n / 2, begin: true})
			}
		}
	}
}
