package pike

import (
	"slices"
	"testing"

	"trema/api"
	"trema/segset"
)

// copyOf is a program that shares no memory.
func copyOf(p []api.Instr) []api.Instr {
	q := slices.Clone(p)
	for i := range q {
		q[i].Set = api.Set{Single: slices.Clone(q[i].Set.Single), Multi: slices.Clone(q[i].Set.Multi), Odd: slices.Clone(q[i].Set.Odd)}
	}
	return q
}

func alike(a, b []api.Instr) bool {
	return slices.EqualFunc(a, b, func(x, y api.Instr) bool {
		return x.Op == y.Op && x.X == y.X && x.Y == y.Y && slices.Equal(x.Set.Single, y.Set.Single) && slices.Equal(x.Set.Multi, y.Set.Multi) && slices.Equal(x.Set.Odd, y.Set.Odd)
	})
}

// roomy is a set with spare room behind each of its lists, and these lists with it.
func roomy() (s, all api.Set) {
	all = api.Set{Single: []api.Range{{Lo: 'a', Hi: 'b'}, {Lo: 'd', Hi: 'd'}, {Lo: 99, Hi: 5}}, Multi: []api.Range{{Lo: 'a', Hi: 'b'}, {Lo: 7, Hi: 7}}, Odd: []string{"a\u0301", "c\u0301", "b"}}
	return api.Set{Single: all.Single[:2], Multi: all.Multi[:1], Odd: all.Odd[:2]}, all
}

// R3: what is handed in is left as it is, spare room and all.
func TestLeftAsItIs(t *testing.T) {
	s, all := roomy()
	room := append([]api.Instr{split(1, 4), {Op: api.OpSet, Set: s}, split(1, 3), jump(5), begins, ends, match}, jump(77), set("b"))
	texts := []string{"a", "d", "c\u0301", "a\u0301", "b", "\xFF", "", "behind", "it"}
	wasRoom, wasTexts := copyOf(room), slices.Clone(texts)
	p, window := room[:7], texts[:7]
	for at := -1; at <= len(window)+1; at++ {
		for _, q := range flags(window, at) {
			Longest(p, q.window, q.at, q.begin, q.final)
			Steps(p, q.window, q.at, q.begin, q.final)
			Longest(room, q.window, q.at, q.begin, q.final)
		}
	}
	for _, x := range [][]api.Instr{p, p[:0], p[:3], room} {
		All(x, window)
		Whole(x, window)
		All(x, window[:0])
	}
	if !alike(room, wasRoom) || !slices.Equal(texts, wasTexts) {
		t.Error("what was handed in was changed", told(room), texts)
	}
	if _, was := roomy(); !alike([]api.Instr{{Set: all}}, []api.Instr{{Set: was}}) {
		t.Error("a set was changed", all)
	}
}

// R3: an answer is new memory, spare room too, and nothing that was handed in is kept.
func TestNewMemory(t *testing.T) {
	for n := range 40 { // with and without spare room
		p := of(t, "a|b")
		texts := slices.Repeat([]string{"a"}, n)
		first, _ := All(p, texts)
		second, _ := All(p, texts)
		want := make([]api.Span, n)
		for i := range want {
			want[i] = api.Span{From: i, To: i + 1}
		}
		if !slices.Equal(first, want) {
			t.Fatal(first)
		}
		all := first[:cap(first)]
		for i := range all {
			all[i] = api.Span{From: 7, To: 7, Start: 7, End: 7}
		}
		if !slices.Equal(second, want) {
			t.Fatal("two answers share memory", second)
		}
		third, _ := All(p, texts)
		for i := range p {
			p[i] = match
		}
		clear(texts)
		if !slices.Equal(second, want) || !slices.Equal(third, want) {
			t.Fatal("what was handed in is kept, or an answer is", second, third)
		}
	}
}

// R2: what a call answers hangs on nothing that was asked ahead of it.
func TestNothingIsKept(t *testing.T) {
	d := dice(14)
	type question struct {
		p []api.Instr
		q ask
	}
	var questions []question
	for range 60 {
		w := rolledTexts(&d, d.roll(8))
		questions = append(questions, question{rolledProgram(&d, 1+d.roll(12)), pick(&d, flags(w, d.roll(len(w)+3)-1)...)})
	}
	type answers struct {
		longest answer
		steps   int
		all     int
		whole   bool
	}
	answered := func(x question) answers {
		l, _ := All(x.p, x.q.window)
		is, _ := Whole(x.p, x.q.window)
		return answers{longest(x.p, x.q), Steps(x.p, x.q.window, x.q.at, x.q.begin, x.q.final), len(l), is}
	}
	was := make([]answers, len(questions))
	for i, x := range questions {
		was[i] = answered(x)
	}
	for range 5000 {
		i := d.roll(len(questions))
		if got := answered(questions[i]); got != was[i] {
			t.Fatalf("%s: %v: %v, but it was %v", told(questions[i].p), questions[i].q, got, was[i])
		}
	}
	p := of(t, "a*b")
	p[1].Set = segset.Of("b") // a program that is another one now
	if got := longest(p, ask{letters("bbb"), 0, true, true}); got != (answer{3, true, false, api.OK}) {
		t.Error(got)
	}
}
