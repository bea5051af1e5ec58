package pike

import (
	"fmt"
	"slices"
	"strings"
	"testing"

	"trema/api"
	"trema/prog"
	"trema/segset"
)

// The instructions without a number.
var (
	begins = api.Instr{Op: api.OpBegin}
	ends   = api.Instr{Op: api.OpEnd}
	match  = api.Instr{Op: api.OpMatch}
)

func set(text string) api.Instr { return api.Instr{Op: api.OpSet, Set: segset.Of(text)} }
func split(x, y int) api.Instr  { return api.Instr{Op: api.OpSplit, X: x, Y: y} }
func jump(x int) api.Instr      { return api.Instr{Op: api.OpJump, X: x} }

// of is the program of a pattern.
func of(t *testing.T, pattern string) []api.Instr {
	t.Helper()
	p, place, e := prog.Pattern([]byte(pattern))
	if e != api.OK {
		t.Fatalf("a test's own pattern %q: %v at %d", pattern, e, place)
	}
	return p
}

// letters are texts of one letter each.
func letters(text string) []string { return strings.Split(text, "") }

// told is the short form of a program.
func told(p []api.Instr) string {
	var l []string
	for _, x := range p {
		switch x.Op {
		case api.OpSet:
			l = append(l, fmt.Sprintf("set%+q", x.Set))
		case api.OpSplit:
			l = append(l, fmt.Sprintf("split %d %d", x.X, x.Y))
		case api.OpJump:
			l = append(l, fmt.Sprintf("jump %d", x.X))
		default:
			l = append(l, fmt.Sprintf("op %d", x.Op))
		}
	}
	return strings.Join(l, ", ")
}

// spans are spans of their short form: "0-2 2-3".
func spans(t *testing.T, form string) []api.Span {
	t.Helper()
	var l []api.Span
	for _, x := range strings.Fields(form) {
		var s api.Span
		if n, e := fmt.Sscanf(x, "%d-%d", &s.From, &s.To); n != 2 || e != nil {
			t.Fatal("a test's own form", form)
		}
		l = append(l, s)
	}
	return l
}

// ask is what is asked of a program but the program.
type ask struct {
	window       []string
	at           int
	begin, final bool
}

func (q ask) String() string {
	return fmt.Sprintf("%+q from %d, begin %v, final %v,", q.window, q.at, q.begin, q.final)
}

// answer is what Longest answers.
type answer struct {
	end         int
	found, open bool
	e           api.Errno
}

func longest(p []api.Instr, q ask) answer {
	end, found, open, e := Longest(p, q.window, q.at, q.begin, q.final)
	return answer{end, found, open, e}
}

// reached is R(at), .. R(n) by the chapter's words.
func reached(p []api.Instr, q ask) [][]int {
	var l [][]int
	from := []int{0}
	for i := q.at; i <= len(q.window); i++ {
		r := prog.Reach(p, from, q.begin && i == 0, q.final && i == len(q.window))
		l = append(l, r)
		from = nil
		for _, x := range r {
			if i < len(q.window) && p[x].Op == api.OpSet && segset.Has(p[x].Set, q.window[i]) {
				from = append(from, x+1)
			}
		}
	}
	return l
}

// saidLongest is what Longest answers, and saidSteps what Steps does, by the chapter's
// words.
func saidLongest(p []api.Instr, q ask) (a answer, steps int) {
	l := reached(p, q)
	for i, r := range l {
		steps += len(r)
		for _, x := range r {
			if p[x].Op == api.OpMatch {
				a.found, a.end = true, q.at+i
			}
		}
	}
	for _, x := range l[len(l)-1] {
		a.open = a.open || !q.final && (p[x].Op == api.OpSet || p[x].Op == api.OpEnd)
	}
	return a, steps
}

// spansOf are the spans LL of n segments by DOC.md's words; end is the greatest e of
// the matches from a place, -1 if there is none.
func spansOf(n int, end func(s int) int) []api.Span {
	var l []api.Span
	for i := 0; i <= n; {
		s := i
		for s <= n && end(s) < 0 {
			s++
		}
		if s > n {
			break
		}
		e := end(s)
		l = append(l, api.Span{From: s, To: e})
		i = e
		if e == s {
			i = s + 1
		}
	}
	return l
}

// saidAll is what All answers, and whether Whole does, by the chapter's words.
func saidAll(p []api.Instr, texts []string) ([]api.Span, bool) {
	end := make([]int, len(texts)+1)
	for s := range end {
		a, _ := saidLongest(p, ask{texts, s, true, true})
		end[s] = a.end
		if !a.found {
			end[s] = -1
		}
	}
	return spansOf(len(texts), func(s int) int { return end[s] }), end[0] == len(texts)
}

// sameAsSaid sees to it that all is answered so from each place of a window, and that
// P10.4 holds.
func sameAsSaid(t *testing.T, p []api.Instr, window []string) {
	t.Helper()
	for at := range len(window) + 1 {
		for _, q := range flags(window, at) {
			want, steps := saidLongest(p, q)
			if got := longest(p, q); got != want {
				t.Fatalf("%s: Longest %v %v, but should be %v", told(p), q, got, want)
			}
			if got := Steps(p, q.window, q.at, q.begin, q.final); got != steps || got > len(p)*(len(window)-at+1) {
				t.Fatalf("%s: Steps %v %d, but should be %d", told(p), q, got, steps)
			}
		}
	}
	wantAll, wantWhole := saidAll(p, window)
	if got, e := All(p, window); e != api.OK || !slices.Equal(got, wantAll) {
		t.Fatalf("%s: All %+q %v %v, but should be %v", told(p), window, got, e, wantAll)
	}
	if got, e := Whole(p, window); e != api.OK || got != wantWhole {
		t.Fatalf("%s: Whole %+q %v %v, but should be %v", told(p), window, got, e, wantWhole)
	}
}

// flags are the questions from a place of a window with each of begin and final.
func flags(window []string, at int) []ask {
	return []ask{{window, at, false, false}, {window, at, true, false}, {window, at, false, true}, {window, at, true, true}}
}

// rows are all lists of up to so many texts.
func rows(most int, texts ...string) [][]string {
	l := [][]string{nil}
	for from, n := 0, 0; n < most; n++ {
		to := len(l)
		for _, row := range l[from:to] {
			for _, x := range texts {
				l = append(l, append(slices.Clone(row), x))
			}
		}
		from = to
	}
	return l
}

// dice are numbers without an order that can be seen, the same at every run.
type dice uint64

func (d *dice) roll(n int) int {
	*d = *d*6364136223846793005 + 1442695040888963407
	return int(uint64(*d)>>33) % n
}

func pick[T any](d *dice, l ...T) T { return l[d.roll(len(l))] }
