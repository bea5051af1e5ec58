package pike

import (
	"slices"
	"testing"

	"trema/api"
	"trema/prog"
)

// kinds are all instructions that stand in programs of n, but the last one.
func kinds(n int) []api.Instr {
	l := []api.Instr{set("a"), set("b"), begins, ends, match}
	for x := range n {
		l = append(l, jump(x))
		for y := range n {
			l = append(l, split(x, y))
		}
	}
	return l
}

// P10.1 and P10.4: every program of up to two instructions and a match over all short
// windows, and every one of three over some of them.
func TestEveryProgram(t *testing.T) {
	windows := append(rows(3, "a", "b"), []string{"c", "a"}, []string{"a", "c", "b"}, []string{"a", "a", "b", "a"})
	sameAsSaidOver(t, []api.Instr{match}, windows)
	for _, x := range kinds(2) {
		sameAsSaidOver(t, []api.Instr{x, match}, windows)
	}
	for _, x := range kinds(3) {
		for _, y := range kinds(3) {
			sameAsSaidOver(t, []api.Instr{x, y, match}, windows)
		}
	}
	d := dice(10)
	for _, x := range kinds(4) {
		for _, y := range kinds(4) {
			for _, z := range kinds(4) {
				from := d.roll(len(windows) - 2)
				sameAsSaidOver(t, []api.Instr{x, y, z, match}, windows[from:from+3])
			}
		}
	}
}

func sameAsSaidOver(t *testing.T, p []api.Instr, windows [][]string) {
	t.Helper()
	for _, w := range windows {
		sameAsSaid(t, p, w)
	}
}

// rolledProgram is a program of n instructions, many of them on a way from 0.
func rolledProgram(d *dice, n int) []api.Instr {
	p := make([]api.Instr, n)
	for i := range n - 1 {
		near := min(n-1, max(0, i+d.roll(9)-2))
		switch d.roll(9) {
		case 0, 1, 2:
			p[i] = set(pick(d, "a", "a", "b", "e\u0301"))
		case 3:
			p[i] = api.Instr{Op: api.OpSet, Set: pick(d, of1("."), of1("[^a]"), of1("[^e\u0301]"), of1(`\p{L}`))}
		case 4, 5:
			p[i] = split(i+1, near)
		case 6:
			p[i] = split(near, d.roll(n))
		case 7:
			p[i] = pick(d, jump(near), jump(d.roll(n)))
		default:
			p[i] = pick(d, begins, ends, ends, match)
		}
	}
	p[n-1] = match
	return p
}

// of1 is the set of a pattern of one atom.
func of1(pattern string) api.Set {
	p, _, _ := prog.Pattern([]byte(pattern))
	return p[0].Set
}

// rolledTexts are texts of all kinds.
func rolledTexts(d *dice, n int) []string {
	l := make([]string, n)
	for i := range l {
		l[i] = pick(d, "a", "a", "a", "a", "b", "b", "e\u0301", "e", "e\u0302", "1", "ab", "", "\xFF", "\xFF\xFF", "\uFFFD")
	}
	return l
}

// P10.1 and P10.4: longer programs, and longer windows.
func TestRolledPrograms(t *testing.T) {
	d := dice(11)
	found := 0
	for i := range 4000 {
		p := rolledProgram(&d, 2+d.roll(20))
		if i%100 == 0 {
			p = rolledProgram(&d, 200+d.roll(400))
		}
		for range 4 {
			w := rolledTexts(&d, d.roll(12))
			sameAsSaid(t, p, w)
			if l, _ := All(p, w); len(l) > 0 && len(l) < len(w) {
				found++
			}
		}
	}
	if found < 1000 {
		t.Error("too few of them find anything of note", found)
	}
}

// P10.3: of a run that isn't open no more texts change the answer, whether the window
// ends then or not; and nothing but these may be called open.
func TestMoreText(t *testing.T) {
	d := dice(12)
	var programs [][]api.Instr
	for _, x := range []string{"", "a", "ab", "a*", "a*b", "a|ab", "a$", "$", "^", "^a$", "a|ab$", "(ab)*", "(a|b)*a", "a{2,3}", "(^a)*", "a$b", "(a$|ab)b?"} {
		programs = append(programs, of(t, x))
	}
	for range 300 {
		programs = append(programs, rolledProgram(&d, 2+d.roll(8)))
	}
	more := rows(3, "a", "b", "e\u0301")
	open, closed := 0, 0
	for _, p := range programs {
		for _, w := range rows(3, "a", "b") {
			for at := range len(w) + 1 {
				for _, begin := range []bool{false, true} {
					got := longest(p, ask{w, at, begin, false})
					if got.open {
						open++
						continue
					}
					closed++
					for _, behind := range more {
						q := ask{slices.Concat(w, behind), at, begin, false}
						same := longest(p, q)
						q.final = true
						if final := longest(p, q); same != got || final != got {
							t.Fatalf("%s: %v %v, and final %v, but with less text it was %v", told(p), q, same, final, got)
						}
					}
				}
			}
		}
	}
	if open < 1000 || closed < 1000 {
		t.Error("too few of one kind", open, closed)
	}
}

// P10.3, the other way: final says that no more can come, so that no run is open; the
// answer is that of the window as the text.
func TestFinalIsNeverOpen(t *testing.T) {
	for _, x := range []string{"a*", "a*b", "$", "a$", "ab", "(a|$)*"} {
		p := of(t, x)
		for _, w := range rows(3, "a", "b") {
			for at := range len(w) + 1 {
				if got := longest(p, ask{w, at, true, true}); got.open {
					t.Errorf("%s: over %q from %d: %v", x, w, at, got)
				}
			}
		}
	}
}
