package lazy

import (
	"slices"
	"testing"

	"trema/api"
	"trema/segset"
)

// copyOf is a program that shares no memory.
func copyOf(p []api.Instr) []api.Instr {
	q := slices.Clone(p)
	for i := range q {
		q[i].Set = api.Set{Single: slices.Clone(q[i].Set.Single), Multi: slices.Clone(q[i].Set.Multi), Odd: slices.Clone(q[i].Set.Odd)}
	}
	return q
}

func alike(a, b []api.Instr) bool {
	return slices.EqualFunc(a, b, func(x, y api.Instr) bool {
		return x.Op == y.Op && x.X == y.X && x.Y == y.Y && slices.Equal(x.Set.Single, y.Set.Single) && slices.Equal(x.Set.Multi, y.Set.Multi) && slices.Equal(x.Set.Odd, y.Set.Odd)
	})
}

// roomy is a set with spare room behind each of its lists, and these lists with it.
func roomy() (s, all api.Set) {
	all = api.Set{Single: []api.Range{{Lo: 'a', Hi: 'b'}, {Lo: 'd', Hi: 'd'}, {Lo: 99, Hi: 5}}, Multi: []api.Range{{Lo: 'a', Hi: 'b'}, {Lo: 7, Hi: 7}}, Odd: []string{"a\u0301", "c\u0301", "b"}}
	return api.Set{Single: all.Single[:2], Multi: all.Multi[:1], Odd: all.Odd[:2]}, all
}

// R3: what is handed in is left as it is, spare room and all.
func TestLeftAsItIs(t *testing.T) {
	s, all := roomy()
	behind := []api.Instr{split(1, 4), goes(s), split(1, 3), jump(5), begins, ends, match, jump(77), text("b")}
	texts := []string{"a", "d", "c\u0301", "a\u0301", "b", "\xFF", "", "behind", "it"}
	was, wasTexts := copyOf(behind), slices.Clone(texts)
	p, window := behind[:7], texts[:7]
	New(behind, 5)
	New(p[:3], 5)
	New(p, 1)
	for _, room := range []int{2, 5, api.MaxCache} {
		w := watch(t, p, room)
		for n := range window {
			for _, q := range questions(window[:n]) {
				w.ask(q)
			}
		}
		w.ask(ask{window: window, at: -1})
		w.ask(ask{window: window, at: 8})
	}
	if !alike(behind, was) || !slices.Equal(texts, wasTexts) {
		t.Error("what was handed in was changed", told(behind), texts)
	}
	if _, was := roomy(); !alike([]api.Instr{goes(all)}, []api.Instr{goes(was)}) {
		t.Error("a set was changed", all)
	}
	if x := p[1].Set; &x.Single[0] != &s.Single[0] || &x.Multi[0] != &s.Multi[0] || &x.Odd[0] != &s.Odd[0] {
		t.Error("a program has other lists than it was handed in with")
	}
}

// R3: a machine keeps copies: its program is no matter to it behind New, and neither is a
// window behind the call.
func TestNothingIsKept(t *testing.T) {
	s, _ := roomy()
	was := []api.Instr{split(1, 3), goes(s), jump(0), match}
	window := []string{"a", "a\u0301", "b\u0301", "d", "c\u0301", "a", "x"}
	for _, room := range []int{2, api.MaxCache} {
		for _, asked := range []bool{false, true} { // states are made ahead of the change, or behind it
			p := copyOf(was)
			lists := p[1].Set
			m, _ := New(p, room)
			if asked {
				answered(m, ask{window: window})
			}
			for k := range lists.Single {
				lists.Single[k] = api.Range{Lo: 'x', Hi: 'z'}
			}
			clear(lists.Multi)
			clear(lists.Odd)
			for i := range p {
				p[i] = match
			}
			for _, q := range questions(window) {
				if got, want := answered(m, q), said(was, q); !same(got, want) {
					t.Fatalf("room %d: %v: %v, but should be %v", room, q, got, want)
				}
			}
			// Large texts are left to layer 10, by the copies too.
			many := slices.Repeat(window, 300)
			if got, want := answered(m, ask{window: many, all: true}), said(was, ask{window: many, all: true}); !same(got, want) {
				t.Fatal("many texts", got, want)
			}
		}
	}
	w := watch(t, was, api.MaxCache)
	for range 3 {
		w.ask(ask{window: window, final: true})
		w.ask(ask{window: window, all: true})
		slices.Reverse(window)
		window[2] = "d"
	}
}

// R3: an answer is new memory, spare room too.
func TestNewMemory(t *testing.T) {
	for _, pattern := range []string{"a|b", "a|a.*c"} { // by states, and by layer 10
		for n := range 60 { // with and without spare room
			m, _ := New(of(t, pattern), 8)
			texts := slices.Repeat([]string{"a"}, n)
			first, _ := m.All(texts)
			second, _ := m.All(texts)
			want := make([]api.Span, n)
			for i := range want {
				want[i] = api.Span{From: i, To: i + 1}
			}
			if !slices.Equal(first, want) {
				t.Fatal(first)
			}
			all := first[:cap(first)]
			for i := range all {
				all[i] = api.Span{From: 7, To: 7, Start: 7, End: 7}
			}
			if third, _ := m.All(texts); !slices.Equal(second, want) || !slices.Equal(third, want) {
				t.Fatal("two answers share memory", second, third)
			}
			clear(texts)
			if !slices.Equal(second, want) {
				t.Fatal("an answer shares memory with the texts", second)
			}
		}
	}
}

// R2: machines do not mix: each goes on as if there were no other, those of one program
// too.
func TestMachinesDoNotMix(t *testing.T) {
	d := dice(50)
	p := of(t, "(a|b)*a(a|b){2}")
	programs := [][]api.Instr{p, p, of(t, "b*a"), of(t, "^a|b$"), {goes(segset.All()), match}}
	type one struct {
		asked []ask
		want  []answer
		looks [][2]int
	}
	make1 := func(p []api.Instr, room int) one {
		var x one
		m, _ := New(p, room)
		for range 100 {
			q := rolledQuestion(&d)
			x.asked = append(x.asked, q)
			x.want = append(x.want, answered(m, q))
			x.looks = append(x.looks, [2]int{m.States(), m.Flushes()})
		}
		return x
	}
	var all []one
	var machines []*Machine
	for i, p := range programs {
		room := []int{2, 3, api.MaxCache, 4, 2}[i]
		all = append(all, make1(p, room))
		m, _ := New(p, room)
		machines = append(machines, m)
	}
	for k := range 100 {
		for i, m := range machines {
			if got := answered(m, all[i].asked[k]); !same(got, all[i].want[k]) || all[i].looks[k] != [2]int{m.States(), m.Flushes()} {
				t.Fatalf("machine %d: %v: %v, %d states, %d flushes, but alone it was %v, %v", i, all[i].asked[k], got, m.States(), m.Flushes(), all[i].want[k], all[i].looks[k])
			}
		}
	}
}
