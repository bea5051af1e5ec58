package prog

import (
	"slices"
	"strconv"
	"strings"
	"testing"

	"trema/api"
	"trema/segset"
)

// of is a code of n instructions, by steps.
func of(n int) []api.Node {
	l := steps("_")
	for n > 0 {
		w := min(n, 64)
		l = append(l, node(set("a")), times(w, w), cat)
		n -= w
	}
	return l
}

// with puts steps behind one another.
func with(parts ...[]api.Node) []api.Node { return slices.Concat(parts...) }

// weighs sees to it that steps make a program of that weight, or none where that is
// 0.
func weighs(t *testing.T, l []api.Node, weight int) {
	t.Helper()
	p, e := Compile(l)
	if len(p) != weight || (e == api.OK) != (weight > 0) || e != api.OK && e != api.ErrWeight || May(p) != (e == api.OK) {
		t.Errorf("%d steps, the last ones %v: %d instructions, %v, but should be %d", len(l), l[max(0, len(l)-5):], len(p), e, weight)
	}
}

// P8.1 and P8.2, Compile: the whole as heavy as it may be, and by one more.
func TestWeightOfWhole(t *testing.T) {
	const most = api.MaxWeight - 1
	one := steps("a")
	for _, n := range []int{0, 1, 2, 64, 65, 4000, most - 1, most} {
		weighs(t, of(n), n+1)
	}
	weighs(t, of(most+1), 0)
	weighs(t, of(most+2), 0)
	weighs(t, of(3*most), 0)
	for _, c := range []struct {
		operand int
		by      string
		weight  int
	}{
		{most - 1, "a &", most + 1}, {most, "a &", 0}, {most - 1, "^ &", most + 1}, {most, "$ &", 0}, {most, "_ &", most + 1}, {most - 3, "a |", most + 1}, {most - 2, "a |", 0}, {most - 2, "_ |", most + 1}, {most - 1, "_ |", 0},
		{most, "*1,1", most + 1}, {most, "*0,0", 1}, {most - 1, "*0,1", most + 1}, {most, "*0,1", 0}, {most - 2, "*0,-1", most + 1}, {most - 1, "*0,-1", 0}, {most, "*0,-1", 0}, {(most - 2 - 1) / 2, "*1,-1", most}, {(most-2-1)/2 + 1, "*1,-1", 0},
		{most / 5, "*5,5", most + 1}, {most/5 + 1, "*5,5", 0}, {most / 5, "*6,6", 0}, {(most - 4) / 7, "*3,7", (most-4)/7*7 + 5}, {most / 7, "*3,7", 0}, {most / 63, "*63,63", most + 1}, {most / 63, "*64,64", 0}, {(most - 63) / 63, "*0,63", most + 1}, {(most - 63) / 63, "*0,64", 0},
		{most / 3, "*2,3", 0}, {most/3 - 1, "*2,3", most - 1}, {most / 3, "*3,3", most + 1}, {most / 3, "*2,-1", 0}, {most/3 - 1, "*2,-1", most}, {most/3 - 1, "*3,-1", 0}, {63, "*64,64", 4033}, {64, "*64,64", 0}, {62, "*64,-1", 4033}, {63, "*64,-1", 0}, {62, "*0,64", 4033}, {63, "*0,64", 0},
	} {
		weighs(t, with(of(c.operand), steps(c.by)), c.weight)
		if c.weight == 0 { // the same behind it, and ahead of it
			weighs(t, with(one, of(c.operand), steps(c.by+" &")), 0)
			weighs(t, with(of(c.operand), steps(c.by+" _ |")), 0)
		}
	}
	weighs(t, with(one, of(most-1), steps("&")), most+1)
	weighs(t, with(one, of(most), steps("&")), 0)
	weighs(t, with(one, of(most-3), steps("|")), most+1)
	weighs(t, with(one, of(most-2), steps("|")), 0)
	weighs(t, with(of(2000), of(most-2000), steps("&")), most+1)
	weighs(t, with(of(2000), of(most-2000), steps("|")), 0)
}

// P8.1, Compile: an operand as heavy as it may be, and by one more, which a count of
// nothing leaves out.
func TestWeightOfOperand(t *testing.T) {
	const most = api.MaxWeight - 1
	for _, c := range []struct {
		l    []api.Node
		most int
	}{
		{of(most), most}, {with(of(most-3), steps("a |")), most}, {with(steps("a"), of(most-1), steps("&")), most}, {with(of(most-2), steps("*0,-1")), most}, {with(of(most/3), steps("*3,3")), most}, {with(of(most-1), steps("*0,1")), most}, {with(of(most), steps("*0,0 a |")), most},
		{of(most + 1), 0}, {with(of(most-2), steps("a |")), 0}, {with(steps("a"), of(most), steps("&")), 0}, {with(of(most-1), steps("*0,-1")), 0}, {with(of(most/3+1), steps("*3,3")), 0}, {with(of(most), steps("*0,1")), 0}, {with(of(most+1), steps("*0,0")), 0}, {with(of(most+1), steps("*0,0 *0,0 a |")), 0},
	} {
		weight := min(c.most, 1)
		weighs(t, with(c.l, steps("*0,0")), weight)
		weighs(t, with(c.l, steps("*0,0 *0,0 *1,1 *2,2")), weight)
		weighs(t, with(steps("a"), c.l, steps("*0,0 & b &")), 3*weight)
		weighs(t, with(c.l, steps("*0,0 a |")), 4*weight)
		weighs(t, with(steps("a"), c.l, steps("*0,0 |")), 4*weight)
		weighs(t, with(c.l, steps("*0,0 *0,-1")), 3*weight)
	}
	for in, weight := range map[string]int{
		"(a{64}){63}" + strings.Repeat("b", 63): 4096, "(a{64}){63}" + strings.Repeat("b", 64): 0, "((a{64}){63}b{63}){0}": 1, "((a{64}){63}b{64}){0}": 0, "((a{64}){63}b{63}){0}c": 2, "((a{64}){64}){0}": 0, "c|((a{64}){64}){0}": 0, "((a{64}){63}b{61})*": 4096, "((a{64}){63}b{62})*": 0, "(((a{64}){63}b{62})*){0}": 0,
		"((a{64}){63}b{62})?": 4096, "((a{64}){63}b{63})?": 0, "(((a{64}){63}b{63})?){0}": 0, "(a{62}){64,}": 4033, "(a{62}){0,64}": 4033, "(a{63}){0,64}": 0, "(a?){64}": 129, "((a?){64}){31}": 3969, "((a?){64}){32}": 0,
	} {
		p, n, e := Pattern([]byte(in))
		if len(p) != weight || n != 0 || (e == api.OK) != (weight > 0) || e != api.OK && e != api.ErrWeight {
			t.Errorf("Pattern(%s): %d instructions, %d %v, but should be %d", in, len(p), n, e, weight)
		}
	}
}

// R1: weights that no number holds, and lists that would be slow or large if all
// were written that is left out again, or moved for each step.
func TestWeightsOfAll(t *testing.T) {
	again := func(form string, n int) []api.Node { return steps(strings.Repeat(form+" ", n)) }
	for _, by := range []string{"*64,64", "*64,-1", "*0,64", "*2,2", "*1,2", "*1,-1", "a | *7,9"} {
		weighs(t, with(steps("a"), again(by, 3000)), 0)
		weighs(t, with(steps("a"), again(by, 3000), again("*0,0", 9)), 0)
	}
	for _, by := range []string{"*0,1", "*0,-1"} {
		weighs(t, with(steps("_"), again(by, 2000)), map[string]int{"*0,1": 2001, "*0,-1": 4001}[by])
		weighs(t, with(steps("_"), again(by, 5000)), 0)
	}
	weighs(t, with(steps("_"), again("*64,64", 60000)), 1)
	weighs(t, with(steps("a"), again("*1,1", 60000)), 2)
	weighs(t, with(of(4095), again("*1,1", 60000)), 4096)
	weighs(t, with(of(4095), again("*1,1", 60000), steps("*0,0")), 1)
	weighs(t, with(of(4095), again("*0,0", 60000)), 1)
	weighs(t, with(of(4095), steps("*0,0"), again("*64,64", 60000)), 1)
	weighs(t, with(again("_", 60000), of(4095), again("&", 60000)), 4096)
	weighs(t, with(of(4095), again("_ &", 60000)), 4096)
	weighs(t, with(again("a", 60000), again("&", 59999)), 0)
	weighs(t, with(again("a", 60000), again("*0,0 &", 59999)), 2)
	weighs(t, with(again("a *64,64 *63,63", 60000), again("*0,0 &", 59999)), 4033)
	weighs(t, with(again("a *64,64 *63,63", 60000), again("*0,0 &", 59999), steps("a |")), 4036)
	weighs(t, with(again("a *64,64 *63,63 *0,0", 60000), again("&", 59999)), 1)
	weighs(t, with(again("a", 1365), again("|", 1364)), 4094)
	weighs(t, with(again("a", 1365), again("|", 1364), steps("a a | &")), 0)
	weighs(t, with(again("a", 1366), again("|", 1365)), 0)
	weighs(t, with(steps("a"), again("a |", 1364)), 4094)
}

// grower makes steps of all kinds, with about so many instructions.
type grower struct{ dice }

func (g *grower) grow(size int) []api.Node {
	if size <= 1 {
		return steps(pick(&g.dice, "a", "a", "b", "b", ".", "_", "^", "$", "e\u0301"))
	}
	switch g.roll(7) {
	case 0, 1, 2:
		part := g.roll(size + 1)
		return with(g.grow(part), g.grow(size-part), steps("&"))
	case 3, 4:
		part := g.roll(size + 1)
		return with(g.grow(part), g.grow(size-part), steps("|"))
	case 5:
		by := pick(&g.dice, "*0,-1", "*0,-1", "*1,-1", "*0,1", "*0,0", "*1,1", "*0,1")
		return with(g.grow(size/2), steps(by))
	}
	least := g.roll(5)
	most := least + g.roll(3)
	if g.roll(3) == 0 {
		most = -1
	}
	return with(g.grow(size/(max(least, most)+1)), []api.Node{times(least, most)})
}

// P8.1 and P8.2, steps of all kinds and sizes against the chapter's words.
func TestManySteps(t *testing.T) {
	var g grower
	good, heavy := 0, 0
	for i := range 10000 {
		size := 1 + i%40
		if i%20 == 0 {
			size = 2500 + g.roll(4000)
		}
		l := g.grow(size)
		if p := sameAsSaid(t, l); p == nil {
			heavy++
		} else if len(p) > 2000 {
			good++
		}
	}
	if good < 50 || heavy < 50 {
		t.Error("too few of them near the limit", good, heavy)
	}
}

// P8.1, all short steps against the chapter's words.
func TestShortSteps(t *testing.T) {
	all := steps("_ a ^ & | *0,-1 *0,0 *0,2 *1,1 *2,3")
	var l []api.Node
	var grow func(left int)
	grow = func(left int) {
		sameAsSaid(t, l)
		if left == 0 {
			return
		}
		for _, n := range all {
			l = append(l, n)
			grow(left - 1)
			l = l[:len(l)-1]
		}
	}
	grow(6)
}

// P8.1, what programs mean: the texts over which a program comes to its match are
// the words of its pattern.
func TestMeaning(t *testing.T) {
	var texts [][]string
	for n := range 6 {
		for i := range 1 << n {
			var l []string
			for _, x := range strconv.FormatInt(int64(i|1<<n), 2)[1:] {
				l = append(l, map[rune]string{'0': "a", '1': "b"}[x])
			}
			texts = append(texts, l)
		}
	}
	texts = append(texts, []string{"e\u0301"}, []string{"a", "e\u0301", "b"}, []string{"e\u0301", "e\u0301"})
	var g grower
	for i := range 1500 {
		l := g.grow(1 + i%12)
		p, e := Compile(l)
		if e != api.OK {
			t.Fatal(l, e)
		}
		x := whole(l)
		for _, text := range texts {
			if got, want := run(p, text), ends(x, text, 1); got != want {
				t.Fatalf("%s over %q: ends %b, but should be %b", told(p), text, got, want)
			}
		}
	}
}

// R3: what is handed in is left as it is, spare room and all, and isn't kept; each
// list of an answer is new memory.
func TestCompileMemory(t *testing.T) {
	s := api.Set{Single: []api.Range{{Lo: 'a', Hi: 'b'}, {Lo: 'd', Hi: 'd'}, {Lo: 99, Hi: 5}}[:2], Multi: []api.Range{{Lo: 'a', Hi: 'b'}, {Lo: 7, Hi: 7}}[:1], Odd: []string{"ax", "cx", "b"}[:2]}
	was := api.Set{Single: slices.Clone(s.Single[:3]), Multi: slices.Clone(s.Multi[:2]), Odd: slices.Clone(s.Odd[:3])}
	room := append(with([]api.Node{node(s), times(2, 3), node(s), cat}, steps("a | *0,-1"), of(70), steps("& b *0,0 | *1,1"), []api.Node{node(s), cat}), steps("$ ^ |")...)
	l := room[:len(room)-3]
	before := slices.Clone(room)
	p, e := Compile(l)
	q, _ := Compile(l)
	want, _ := said(l)
	if e != api.OK || !alike(p, want) {
		t.Fatal(told(p), e)
	}
	Compile(l[:3])
	Compile(l[:0])
	for i := range room {
		if !slices.Equal([]int{room[i].Kind, room[i].Min, room[i].Max}, []int{before[i].Kind, before[i].Min, before[i].Max}) || !equal(room[i].Set, before[i].Set) {
			t.Errorf("step %d was changed", i)
		}
	}
	if !equal(api.Set{Single: s.Single[:3], Multi: s.Multi[:2], Odd: s.Odd[:3]}, was) {
		t.Error("a set was changed")
	}
	// Whatever is done to one list of an answer, in its spare room too, no other one
	// changes.
	want = copyOf(want)
	for i := range p {
		spoil(p[i].Set)
		p[i].Set = want[i].Set
		if !alike(p, want) || !alike(q, want) {
			t.Fatalf("the set of instruction %d shares memory", i)
		}
	}
	for i := range p[:cap(p)] {
		p[:cap(p)][i] = api.Instr{Op: 77}
	}
	if r, _ := Compile(l); !alike(r, want) || !alike(q, want) || !equal(s, api.Set{Single: was.Single[:2], Multi: was.Multi[:1], Odd: was.Odd[:2]}) {
		t.Error("an answer shares memory with another one, or with steps")
	}
}

// copyOf is a program that shares no memory.
func copyOf(p []api.Instr) []api.Instr {
	q := slices.Clone(p)
	for i := range q {
		q[i].Set = api.Set{Single: slices.Clone(q[i].Set.Single), Multi: slices.Clone(q[i].Set.Multi), Odd: slices.Clone(q[i].Set.Odd)}
	}
	return q
}

// spoil writes over all of a set's memory.
func spoil(s api.Set) {
	single, multi, odd := s.Single[:cap(s.Single)], s.Multi[:cap(s.Multi)], s.Odd[:cap(s.Odd)]
	for i := range single {
		single[i] = api.Range{Lo: 1, Hi: 2}
	}
	for i := range multi {
		multi[i] = api.Range{Lo: 3, Hi: 4}
	}
	for i := range odd {
		odd[i] = "spoilt"
	}
}

// R3, Pattern: its bytes are left as they are and not kept; copies of a code share
// no lists.
func TestPatternMemory(t *testing.T) {
	room := []byte("(a|[^b\u00E9c-e]|\u00E9){3,5}[ab\u00E9]+behind")
	in := room[:len(room)-6]
	want, _, _ := Pattern([]byte(string(in)))
	p, place, e := Pattern(in)
	if e != api.OK || place != 0 || !alike(p, want) || string(room) != "(a|[^b\u00E9c-e]|\u00E9){3,5}[ab\u00E9]+behind" {
		t.Fatal(told(p), place, e)
	}
	for i := range room {
		room[i] = '*'
	}
	for i := range p {
		if !segset.Equal(p[i].Set, want[i].Set) {
			t.Fatalf("instruction %d kept the pattern's bytes, or a list of another one", i)
		}
		spoil(p[i].Set)
	}
	if len(want) != 42 || !May(want) {
		t.Error(told(want))
	}
}
