package sparse

import (
	"math"
	"slices"
	"testing"
)

// played is what the chapter's words say of Play.
func played(size int, ops []Op) ([]int, []int) {
	m := modelOf[int](size)
	answers := make([]int, 0, len(ops))
	for _, o := range ops {
		a := -2
		switch {
		case o.Kind == 1 && m.add(o.V), o.Kind == 2 && m.there[o.V]:
			a = 1
		case o.Kind == 1, o.Kind == 2:
			a = 0
		case o.Kind == 3:
			a = len(m.list)
		case o.Kind == 4:
			a = -1
			if v, ok := m.at(o.V); ok {
				a = v
			}
		case o.Kind == 5:
			m.clear()
			a = 0
		}
		answers = append(answers, a)
	}
	return answers, m.list
}

// plays holds Play against the chapter's words, and sees to it that the ops are left
// as they are.
func plays(t *testing.T, size int, ops []Op) {
	t.Helper()
	was := slices.Clone(ops)
	answers, values := Play(size, ops)
	wantAnswers, wantValues := played(size, was)
	if !slices.Equal(answers, wantAnswers) || !slices.Equal(values, wantValues) {
		t.Fatalf("Play(%d, %v): %v, %v, but should be %v, %v", size, was, answers, values, wantAnswers, wantValues)
	}
	if !slices.Equal(ops, was) {
		t.Fatalf("Play(%d, %v) changed what it was handed", size, was)
	}
}

// P9.1, Play: the chapter's example, each kind of call, and kinds that are none.
func TestPlay(t *testing.T) {
	for _, c := range []struct {
		size            int
		ops             []Op
		answers, values []int
	}{
		{4, []Op{{1, 2}, {1, 0}, {1, 2}, {1, 4}}, []int{1, 1, 0, 0}, []int{2, 0}},
		{4, []Op{{1, 2}, {1, 0}, {4, 1}, {2, 1}, {5, 0}, {2, 2}}, []int{1, 1, 0, 0, 0, 0}, nil},
		{4, []Op{{1, 3}, {2, 3}, {2, 2}, {2, 4}, {2, -1}}, []int{1, 1, 0, 0, 0}, []int{3}},
		{4, []Op{{3, 0}, {1, 1}, {3, 9}, {1, 3}, {3, -1}, {5, 7}, {3, 0}}, []int{0, 1, 1, 1, 2, 0, 0}, nil},
		{4, []Op{{4, 0}, {1, 3}, {4, 0}, {4, 1}, {4, -1}, {4, math.MaxInt}, {4, math.MinInt}}, []int{-1, 1, 3, -1, -1, -1, -1}, []int{3}},
		{4, []Op{{1, 1}, {5, 0}, {5, 0}, {1, 2}, {1, 1}, {4, 0}, {4, 1}}, []int{1, 0, 0, 1, 1, 2, 1}, []int{2, 1}},
		{4, []Op{{0, 1}, {6, 1}, {-1, 1}, {9, 1}, {257, 1}, {math.MinInt, 1}, {math.MaxInt, 1}, {1<<32 + 1, 1}}, []int{-2, -2, -2, -2, -2, -2, -2, -2}, nil},
		{1, []Op{{1, 0}, {1, 1}, {1, 0}}, []int{1, 0, 0}, []int{0}},
		{0, []Op{{1, 0}, {2, 0}, {3, 0}, {4, 0}, {5, 0}}, []int{0, 0, 0, -1, 0}, nil},
		{-7, []Op{{1, 0}, {1, -7}, {3, 0}}, []int{0, 0, 0}, nil},
		{65536, []Op{{1, 65535}, {1, 65536}, {2, 65535}}, []int{1, 0, 1}, []int{65535}},
		{65535, []Op{{1, 65534}, {1, 65535}}, []int{1, 0}, []int{65534}},
		{math.MaxInt, []Op{{1, 65535}, {1, 65536}, {1, math.MaxInt}, {1, math.MaxInt - 1}}, []int{1, 0, 0, 0}, []int{65535}},
		{math.MinInt, []Op{{1, 0}, {1, math.MinInt}}, []int{0, 0}, nil},
		{4, nil, nil, nil},
		{4, []Op{}, nil, nil},
	} {
		answers, values := Play(c.size, c.ops)
		if !slices.Equal(answers, c.answers) || !slices.Equal(values, c.values) {
			t.Errorf("Play(%d, %v): %v, %v, but should be %v, %v", c.size, c.ops, answers, values, c.answers, c.values)
		}
		plays(t, c.size, c.ops)
	}
}

// P9.1 and P9.2, Play: all scripts of up to five of a few calls.
func TestPlayEveryScript(t *testing.T) {
	few := []Op{{1, 0}, {1, 1}, {1, 2}, {2, 0}, {2, 1}, {3, 0}, {4, 0}, {4, 1}, {5, 0}, {6, 1}}
	ops := make([]Op, 5)
	for length := range len(ops) + 1 {
		scripts := 1
		for range length {
			scripts *= len(few)
		}
		for script := range scripts {
			for i := range length {
				ops[i] = few[script%len(few)]
				script /= len(few)
			}
			plays(t, 2, ops[:length])
		}
	}
}

// P9.1 and R1, Play: any size, any kinds and any numbers, in long scripts.
func TestPlayLongScripts(t *testing.T) {
	d := dice(90)
	edge := edges[int]()
	kinds := []int{1, 1, 1, 1, 2, 2, 3, 4, 4, 5, 0, 6, -1, 255, 1 << 32, math.MinInt, math.MaxInt}
	for _, size := range sizes {
		for _, length := range []int{1, 10, 300, 3000} {
			ops := make([]Op, length)
			for i := range ops {
				ops[i] = Op{kinds[d.roll(len(kinds))], d.roll(40) - 2}
				if d.roll(5) == 0 {
					ops[i].V = edge[d.roll(len(edge))]
				}
				if ops[i].Kind == 5 && d.roll(20) != 0 { // or few numbers would stay
					ops[i].Kind = 3
				}
			}
			plays(t, size, ops)
		}
	}
}

// P9.1, Play: more calls than a set has room for.
func TestPlayFullSet(t *testing.T) {
	var ops []Op
	for v := range 70000 {
		ops = append(ops, Op{1, 69999 - v}, Op{3, 0})
	}
	answers, values := Play(70000, ops)
	for i := range ops {
		want := max(0, i/2-4463) // so many are above 65535
		if i%2 == 0 {
			want = min(want, 1)
		}
		if answers[i] != want {
			t.Fatalf("the %d-th answer: %d, but should be %d", i, answers[i], want)
		}
	}
	for i := range 65536 {
		if values[i] != 65535-i {
			t.Fatalf("the %d-th number: %d", i, values[i])
		}
	}
	if len(answers) != len(ops) || len(values) != 65536 {
		t.Errorf("%d answers, %d numbers", len(answers), len(values))
	}
}

// P9.3, R2 and R3, Play: the ops are left as they are, spare room and all, and both
// answers are new memory, that they share with nothing.
func TestPlayMemory(t *testing.T) {
	for n := range 20 {
		room := make([]Op, 40)
		for i := range room {
			room[i] = Op{1, i % 13}
		}
		was := slices.Clone(room)
		ops := room[:n]
		answers, values := Play(16, ops)
		again, valuesAgain := Play(16, ops)
		wantAnswers, wantValues := played(16, ops)
		spoil(answers)
		if !slices.Equal(values, wantValues) || !slices.Equal(again, wantAnswers) || !slices.Equal(valuesAgain, wantValues) {
			t.Fatalf("%d calls: answers share memory", n)
		}
		spoil(valuesAgain)
		if !slices.Equal(values, wantValues) || !slices.Equal(again, wantAnswers) {
			t.Fatalf("%d calls: numbers share memory", n)
		}
		if !slices.Equal(room, was) {
			t.Fatalf("%d calls: what was handed in was changed", n)
		}
		plays(t, 16, ops)
		clear(room)
		if !slices.Equal(values, wantValues) || !slices.Equal(again, wantAnswers) {
			t.Fatalf("%d calls: what was handed in is kept", n)
		}
	}
}
