package prog

import (
	"bytes"
	"slices"
	"strings"
	"testing"

	"trema/api"
	"trema/segset"
	"trema/syntax"
)

// makes sees to it that a pattern makes a program.
func makes(t *testing.T, in, form string) {
	t.Helper()
	want := made(form)
	p, place, e := Pattern([]byte(in))
	if !alike(p, want) || place != 0 || e != api.OK {
		t.Errorf("Pattern(%+q): %s %d %v, but should be %s", in, told(p), place, e, told(want))
	}
	if !May(want) {
		t.Errorf("%s of %+q may be", form, in)
	}
	l, _, _ := syntax.Parse([]byte(in))
	sameAsSaid(t, l)
}

// refuses sees to it that a pattern is refused.
func refuses(t *testing.T, in string, place int, why api.Errno) {
	t.Helper()
	p, n, e := Pattern([]byte(in))
	if p != nil || n != place || e != why {
		t.Errorf("Pattern(%+.60q): %d instructions, %d %v, but should be %d %v", in, len(p), n, e, place, why)
	}
}

// P8.1, the chapter's examples.
func TestExamples(t *testing.T) {
	makes(t, "a|b", "x1,3 a j4 b M")
	makes(t, "a*", "x1,3 a j0 M")
	makes(t, "a{1,3}", "a x2,5 a x4,5 a M")
	refuses(t, "(a{64}){64}", 0, api.ErrWeight)
	for _, c := range []struct {
		in         string
		begin, end bool
		want       []int
	}{
		{"a*", false, false, []int{0, 1, 3}}, {"^$", false, false, []int{0}}, {"^$", false, true, []int{0}}, {"^$", true, false, []int{0, 1}}, {"^$", true, true, []int{0, 1, 2}},
	} {
		p, _, _ := Pattern([]byte(c.in))
		if l := Reach(p, []int{0}, c.begin, c.end); !slices.Equal(l, c.want) {
			t.Errorf("Reach of %q, %v %v: %v", c.in, c.begin, c.end, l)
		}
	}
}

// P8.1, the code of each kind of step, alone and in one another.
func TestCodes(t *testing.T) {
	for in, form := range map[string]string{
		"": "M", "()": "M", "a": "a M", "\u00E9": "e\u0301 M", `\u{e9}`: "e\u0301 M", ".": ". M", "^": "^ M", "$": "$ M", "^$": "^ $ M", "a^": "a ^ M", "$a": "$ a M", "*\u0301": "*\u0301 M", `\*`: "* M",
		// rows
		"ab": "a b M", "abc": "a b c M", "a(bc)": "a b c M", "(ab)(cd)": "a b c d M", "()a": "a M", "a()": "a M", "()()": "M", "^ab$": "^ a b $ M",
		// choices
		"|": "x1,2 j2 M", "a|": "x1,3 a j3 M", "|a": "x1,2 j3 a M", "ab|c": "x1,4 a b j5 c M", "a|bc": "x1,3 a j5 b c M", "ab|cd": "x1,4 a b j6 c d M", "(a|b)c": "x1,3 a j4 b c M", "a(b|c)": "a x2,4 b j5 c M",
		"a|b|c": "x1,6 x2,4 a j5 b j7 c M", "a|(b|c)": "x1,3 a j7 x4,6 b j7 c M", "(a|b)(c|d)": "x1,3 a j4 b x5,7 c j8 d M", "||": "x1,4 x2,3 j3 j4 M", "^|$": "x1,3 ^ j4 $ M", "a|()": "x1,3 a j3 M",
		"a|b|c|d": "x1,9 x2,7 x3,5 a j6 b j8 c j10 d M", "(a|b)|(c|d)": "x1,6 x2,4 a j5 b j10 x7,9 c j10 d M",
		// counts that end
		"a{0}": "M", "a{0,0}": "M", "a{1}": "a M", "a{1,1}": "a M", "a{2}": "a a M", "a{3,3}": "a a a M", "a?": "x1,2 a M", "a{0,1}": "x1,2 a M", "a{0,2}": "x1,4 a x3,4 a M", "a{0,3}": "x1,6 a x3,6 a x5,6 a M",
		"a{1,2}": "a x2,3 a M", "a{2,3}": "a a x3,4 a M", "a{2,4}": "a a x3,6 a x5,6 a M", "(ab){2}": "a b a b M", "(ab){1,2}": "a b x3,5 a b M", "(ab){0,2}": "x1,6 a b x4,6 a b M", "ba{0,2}c": "b x2,5 a x4,5 a c M", "ba{0}c": "b c M",
		// without an end
		"a+": "a x2,4 a j1 M", "a{0,}": "x1,3 a j0 M", "a{1,}": "a x2,4 a j1 M", "a{2,}": "a a x3,5 a j2 M", "(ab)*": "x1,4 a b j0 M", "(ab)+": "a b x3,6 a b j2 M", "ba*c": "b x2,4 a j1 c M", "a*b*": "x1,3 a j0 x4,6 b j3 M",
		// of nothing
		"()*": "x1,2 j0 M", "()+": "x1,2 j0 M", "()?": "x1,1 M", "(){2}": "M", "(){0}": "M", "(){64}": "M", "(){1,3}": "x1,2 x2,2 M", "(){2,}": "x1,2 j0 M", "a()*b": "a x2,3 j1 b M", "(){0,4}": "x1,4 x2,4 x3,4 x4,4 M",
		// of signs and choices
		"(^)*": "x1,3 ^ j0 M", "($){2}": "$ $ M", "(^)?a": "x1,2 ^ a M", "(a|b)*": "x1,6 x2,4 a j5 b j0 M", "(a|b){2}": "x1,3 a j4 b x5,7 a j8 b M", "(a|b)?": "x1,5 x2,4 a j5 b M", "(|a){2}": "x1,2 j3 a x4,5 j6 a M", "(a|b){0,2}": "x1,10 x2,4 a j5 b x6,10 x7,9 a j10 b M", "(a|b){0}": "M", "(a|b){1}": "x1,3 a j4 b M",
		// repeats in repeats
		"(a*)*": "x1,5 x2,4 a j1 j0 M", "(a+)+": "a x2,4 a j1 x5,10 a x7,9 a j6 j4 M", "(a?)?": "x1,3 x2,3 a M", "(a{2}){2}": "a a a a M", "(a?){2}": "x1,2 a x3,4 a M", "(a?)*": "x1,4 x2,3 a j0 M", "(a*)?": "x1,4 x2,4 a j1 M", "(a*){2}": "x1,3 a j0 x4,6 a j3 M", "(a{1,2}){1,2}": "a x2,3 a x4,7 a x6,7 a M",
		"(a{0}){3}": "M", "(a{0})*": "x1,2 j0 M", "(a{3}){0}": "M", "((a{2}){0}b){2}": "b b M", "(a{0,2}){0,2}": "x1,10 x2,5 a x4,5 a x6,10 x7,10 a x9,10 a M", "(a{1}){1}": "a M", "(a{1}){2}": "a a M", "((a|b*){2}c)?": "x1,14 x2,4 a j7 x5,7 b j4 x8,10 a j13 x11,13 b j10 c M",
	} {
		makes(t, in, form)
	}
}

// P8.1, steps that no pattern has, since there a row goes from the front.
func TestCompile(t *testing.T) {
	for in, form := range map[string]string{
		"_": "M", "a": "a M", "^": "^ M", "$": "$ M", "a b c & &": "a b c M", "a b & c d & &": "a b c d M", "_ _ &": "M", "_ _ |": "x1,2 j2 M", "a b c | |": "x1,3 a j7 x4,6 b j7 c M", "a b c d | & |": "x1,3 a j8 b x5,7 c j8 d M",
		"a *0,-1 *0,-1": "x1,5 x2,4 a j1 j0 M", "a *2,2 *0,1": "x1,3 a a M", "a b *0,0 &": "a M", "a *0,0 b &": "b M", "a b *0,0 |": "x1,3 a j3 M", "a *0,0 b |": "x1,2 j3 b M", "a b & *0,0": "M", "a b | *0,0 c &": "c M", "a *0,0 *0,0": "M", "a b c | & *0,0 d |": "x1,2 j3 d M",
		"a b c *0,0 d & | &": "a x2,4 b j5 d M", "a *1,1 b *1,1 & *1,1": "a b M", "a b & *1,1 *2,2": "a b a b M", "a *1,1 *0,0": "M", "a *0,0 *1,1 b &": "b M", "^ *3,3": "^ ^ ^ M", "^ $ | *1,-1": "x1,3 ^ j4 $ x5,10 x6,8 ^ j9 $ j4 M",
	} {
		l := steps(in)
		if p, e := Compile(l); !alike(p, made(form)) || e != api.OK {
			t.Errorf("Compile(%s): %s %v", in, told(p), e)
		}
		sameAsSaid(t, l)
	}
	wide := api.Set{Single: []api.Range{{Lo: 3, Hi: 5}, {Lo: 9, Hi: api.MaxRune}}, Multi: []api.Range{{Lo: 0, Hi: 0}}, Odd: []string{"\x00a", "ab", "ac"}}
	for _, s := range []api.Set{{}, wide, segset.All(), {Single: []api.Range{}, Multi: []api.Range{}, Odd: []string{}}, segset.Not(wide)} {
		p, e := Compile([]api.Node{node(s), node(wide), cat, times(2, -1)})
		want := []api.Instr{{Op: api.OpSet, Set: s}, {Op: api.OpSet, Set: wide}, {Op: api.OpSet, Set: s}, {Op: api.OpSet, Set: wide}, {Op: api.OpSplit, X: 5, Y: 8}, {Op: api.OpSet, Set: s}, {Op: api.OpSet, Set: wide}, {Op: api.OpJump, X: 4}, {Op: api.OpMatch}}
		if e != api.OK || !alike(p, want) || !May(p) {
			t.Errorf("%+q: %v %v", s, p, e)
		}
	}
}

// P8.1, Compile: each way in which steps may not be, which is told ahead of their weight.
func TestWrongSteps(t *testing.T) {
	wrong := func(l []api.Node) {
		t.Helper()
		if p, e := Compile(l); p != nil || e != api.ErrForm {
			t.Errorf("%v: %s %v", l, told(p), e)
		}
	}
	wrong(nil)
	wrong([]api.Node{})
	for _, form := range []string{"&", "|", "*0,-1", "*1,1", "*0,0", "a &", "a |", "a b", "a b & &", "a b *0,-1", "a & b", "& a b", "*0,-1 a", "a *0,0 &", "_ _", "^ $", "a b c &", "a b c |", "a *0,0 b"} {
		wrong(steps(form))
	}
	bad := []api.Set{{Single: []api.Range{{Lo: 2, Hi: 1}}}, {Multi: []api.Range{{Lo: -1, Hi: 1}}}, {Odd: []string{"a"}}, {Odd: []string{"ab", "ab"}}, {Odd: []string{"\xFF\xFF"}}, {Single: []api.Range{{Lo: 1, Hi: 2}, {Lo: 3, Hi: 4}}}, {Multi: []api.Range{{Lo: 1, Hi: api.MaxRune + 1}}}}
	for _, s := range bad {
		wrong([]api.Node{node(s)})
		wrong([]api.Node{node(set("a")), node(s), cat})
		wrong([]api.Node{node(s), times(0, 0)})
	}
	full := set("a")
	for _, n := range []api.Node{empty, begin, end} {
		n.Set = full
		wrong([]api.Node{n})
		n.Set, n.Min = api.Set{}, 1
		wrong([]api.Node{n})
		n.Min, n.Max = 0, -1
		wrong([]api.Node{n})
	}
	for _, n := range []api.Node{{Kind: api.NodeCat, Set: full}, {Kind: api.NodeOr, Max: 1}, {Kind: api.NodeCat, Min: 1}} {
		wrong([]api.Node{empty, empty, n})
	}
	for _, n := range []api.Node{times(-1, -1), times(-1, 1), times(2, 1), times(0, 65), times(65, 65), times(65, -1), times(0, -2), times(1, 0), {Kind: api.NodeRepeat, Set: full, Max: 1}} {
		wrong([]api.Node{empty, n})
		wrong([]api.Node{node(full), times(64, 64), times(64, 64), n})
	}
	for _, x := range wild {
		wrong([]api.Node{{Kind: x + 1}})
		wrong([]api.Node{empty, {Kind: x + 2}})
		wrong([]api.Node{empty, times(x+1, 64), times(0, x+66)})
		wrong([]api.Node{{Kind: api.NodeSet, Set: full, Min: x + 66}})
	}
	heavy := []api.Node{node(full), times(64, 64), times(64, 64)}
	wrong(append(slices.Clone(heavy), empty))
	wrong(append(slices.Clone(heavy), cat))
	wrong(append(slices.Clone(heavy), node(bad[0]), cat))
	wrong(append([]api.Node{empty}, heavy...))
}

// P8.1, Pattern: each refusal of chapter 7, with its place, ahead of any weight.
func TestRefusals(t *testing.T) {
	long := "a" + strings.Repeat("\u0301", api.MaxSegment-1)
	open := strings.Repeat("(", api.MaxDepth)
	for in, place := range map[string]int{
		")": 0, "*": 0, "+": 0, "?": 0, "{": 0, "}": 0, "]": 0, "\\": 1, "[": 1, "(": 1, "(a": 2, "a)": 1, "a**": 2, "^*": 1, "$?": 1, "a|*": 2, "(*a)": 1, "a{": 2, "a{1": 3, "a{,1}": 2, "a{1,": 4, "a{1,2": 5, "a{65}": 2, "a{01}": 2, "a{3,2}": 4, "a{1,65}": 4,
		"[]": 1, "[^]": 2, "[a": 2, "[a-": 3, "[b-a]": 3, "[a-]": 3, "[a-b-c]": 4, "[-a]": 1, `[a-\`: 4, `[\p{L}-a]`: 6, `\q`: 1, `\p`: 2, `\p{`: 3, `\p{X}`: 3, `\P{L`: 4, `\u`: 2, `\u{`: 3, `\u{}`: 3, `\u{d800}`: 3, `\u{110000}`: 3, `\u{g}`: 3, "[a-\u00E9]": 3, `[\u{e9}-a]`: 8, "(a{64}){64}(": 12, "(a{64}){64})": 11, "a(b|c{2)": 7,
	} {
		refuses(t, in, place, api.ErrForm)
		refuses(t, "\u00E9|"+in, place+2, api.ErrForm)
	}
	refuses(t, long+"\u0301", 0, api.ErrSegment)
	refuses(t, "ab("+long+"\u0301", 3, api.ErrSegment)
	refuses(t, strings.Repeat("a", api.MaxPattern)+long+"\u0301", api.MaxPattern, api.ErrSegment)
	refuses(t, strings.Repeat("a", api.MaxPattern+1), 0, api.ErrLong)
	refuses(t, strings.Repeat(")", api.MaxPattern+1), 0, api.ErrLong)
	refuses(t, "(a{64}){64}"+strings.Repeat("a", api.MaxPattern), 0, api.ErrLong)
	refuses(t, open+"(", api.MaxDepth, api.ErrDeep)
	refuses(t, "ab"+open+"a(b)", api.MaxDepth+3, api.ErrDeep)
	refuses(t, open, api.MaxDepth, api.ErrForm)
	refuses(t, strings.Repeat("a", api.MaxPattern), 0, api.ErrWeight)
	refuses(t, "(a{64}){64}", 0, api.ErrWeight)
	refuses(t, "b(a{64}){64}c{0}", 0, api.ErrWeight)
	makes(t, open+long+strings.Repeat(")", api.MaxDepth), long+" M")
	makes(t, strings.Repeat("a", api.MaxPattern-1), strings.Repeat("a ", api.MaxPattern-1)+"M")
}

// P8.1, Pattern of any bytes: what layer 7 reads, and Compile of that.
func TestAnyPattern(t *testing.T) {
	var d dice
	pieces := []string{"a", "b", "\u00E9", "(", "(", ")", ")", "|", "*", "+", "?", "{2}", "{0,3}", "{1,}", "{0}", "{64}", "{", "}", "[a-c]", "[^", "]", "^", "$", ".", `\p{L}`, `\`, "\u0301", "\xFF", "\xE2\x82", "1", ",", "()"}
	good := 0
	for range 60000 {
		var in bytes.Buffer
		for range d.roll(10) {
			in.WriteString(pick(&d, pieces...))
		}
		l, place, e := syntax.Parse(in.Bytes())
		var want []api.Instr
		if e == api.OK {
			good++
			want, e = said(l)
		}
		p, n, f := Pattern(in.Bytes())
		if n != place || f != e || !alike(p, want) || May(p) != (e == api.OK) {
			t.Fatalf("Pattern(%+q): %s %d %v, but should be %s %d %v", in.String(), told(p), n, f, told(want), place, e)
		}
	}
	if good < 10000 {
		t.Error("too few patterns that can be read", good)
	}
}
