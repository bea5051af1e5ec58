package prog

import (
	"math"
	"slices"
	"strings"
	"testing"

	"trema/api"
	"trema/segset"
)

// sameMay sees to it that May answers that, and the chapter's words, too.
func sameMay(t *testing.T, p []api.Instr, want bool) {
	t.Helper()
	if May(p) != want || sound(p) != want {
		t.Errorf("%d instructions, %s: May %v, by the chapter's words %v, but should be %v", len(p), told(p[max(0, len(p)-6):]), May(p), sound(p), want)
	}
	all := make([]int, len(p))
	for i := range all {
		all[i] = i
	}
	if l := Reach(p, all, true, true); want != slices.Equal(l, all) && len(p) > 0 || !want && len(l) > 0 {
		t.Errorf("%d instructions, %s: Reach of all is %d numbers", len(p), told(p[max(0, len(p)-6):]), len(l))
	}
}

// P8.1, May: how many instructions, and which is the last one.
func TestMayOfLists(t *testing.T) {
	match := made("M")
	sameMay(t, nil, false)
	sameMay(t, []api.Instr{}, false)
	for _, form := range []string{"M", "a M", "^ M", "$ M", "M M", "j0 M", "j1 M", "x0,0 M", "x1,1 M", "x0,1 M", "x1,0 M", "M a M", "M j0 M", "j2 x2,0 M", "a . e\u0301 ^ $ M", "x4,0 j1 M j0 M"} {
		sameMay(t, made(form), true)
		sameMay(t, append(made(form), match...), true)
	}
	for _, form := range []string{"a", "^", "$", "j0", "x0,0", "M a", "M j0", "M x0,1", "a M ^", "M M $", "j2 M", "x2,0 M", "x0,2 M", "x1,2 M", "x-1,0 M", "x0,-1 M", "j-1 M", "j3 a M"} {
		sameMay(t, made(form), false)
	}
	for _, n := range []int{1, 2, api.MaxWeight - 1, api.MaxWeight, api.MaxWeight + 1, api.MaxWeight + 2, 2 * api.MaxWeight, 100000} {
		for _, x := range []api.Instr{{Op: api.OpMatch}, {Op: api.OpSet, Set: set("a")}, {Op: api.OpJump, X: n - 1}, {Op: api.OpSplit, X: n - 1, Y: n - 1}} {
			p := append(slices.Repeat([]api.Instr{x}, n-1), match...)
			sameMay(t, p, n <= api.MaxWeight)
			p[n/2].Op = 0
			sameMay(t, p, false)
		}
		last := append(slices.Repeat(match, n-1), made("j0")...)
		sameMay(t, last, false)
	}
}

// P8.1, May: each field of each kind of instruction.
func TestMayOfFields(t *testing.T) {
	const n = 5
	places := append([]int{0, 1, n - 1, n, n + 1, api.MaxWeight - 1, api.MaxWeight}, wild...)
	ops := append([]int{0, 1, 2, 3, 4, 5, 6, 7, 8, 100}, wild...)
	for _, at := range []int{0, 2, n - 1} {
		for _, op := range ops {
			for _, x := range places {
				for _, y := range places {
					p := made("a M ^ a M")
					p[at] = api.Instr{Op: op, X: x, Y: y}
					in, or := x >= 0 && x < n, y >= 0 && y < n
					want := op == api.OpSplit && in && or || op == api.OpJump && in && y == 0 || op >= api.OpSet && op <= api.OpMatch && op != api.OpSplit && op != api.OpJump && x == 0 && y == 0
					if want = want && (at < n-1 || op == api.OpMatch); May(p) != want || sound(p) != want {
						t.Fatalf("instruction %d is op %d, %d, %d: %v", at, op, x, y, !want)
					}
				}
			}
		}
	}
}

// P8.1, May: sets, which are normal for those that have one, and none for others.
func TestMayOfSets(t *testing.T) {
	az := []api.Range{{Lo: 'a', Hi: 'z'}}
	none := []api.Set{{}, {Single: []api.Range{}, Multi: []api.Range{}, Odd: []string{}}}
	normal := append(none, set("a"), set("."), set("e\u0301"), api.Set{Multi: az}, api.Set{Single: az, Multi: az, Odd: []string{"ab", "ac", "za"}}, api.Set{Single: []api.Range{{Lo: 0, Hi: 0}, {Lo: 2, Hi: 2}, {Lo: api.MaxRune, Hi: api.MaxRune}}}, api.Set{Single: []api.Range{{Lo: 0xD800, Hi: 0xDFFF}}})
	wrong := []api.Set{
		{Single: []api.Range{{Lo: 2, Hi: 1}}}, {Single: []api.Range{{Lo: -1, Hi: 1}}}, {Single: []api.Range{{Lo: 1, Hi: api.MaxRune + 1}}}, {Single: []api.Range{{Lo: 1, Hi: 2}, {Lo: 3, Hi: 3}}}, {Single: []api.Range{{Lo: 5, Hi: 6}, {Lo: 1, Hi: 2}}}, {Single: append(az, az...)},
		{Multi: []api.Range{{Lo: 2, Hi: 1}}}, {Multi: []api.Range{{Lo: -1, Hi: 1}}}, {Multi: []api.Range{{Lo: 1, Hi: api.MaxRune + 1}}}, {Multi: append(az, az...)}, {Multi: []api.Range{{Lo: math.MinInt32, Hi: math.MaxInt32}}},
		{Odd: []string{"a"}}, {Odd: []string{""}}, {Odd: []string{"ab", "ab"}}, {Odd: []string{"ac", "ab"}}, {Odd: []string{"\xFF\xFF"}}, {Odd: []string{"ab", "e\xCC"}}, {Single: az, Multi: az, Odd: []string{"ab", "x"}}, {Single: az, Multi: append(az, az...), Odd: []string{"ab"}},
	}
	for i, s := range append(normal, wrong...) {
		for at := range 3 {
			for op := api.OpSet; op <= api.OpMatch; op++ {
				p := made("M j0 M")
				p[at] = api.Instr{Op: op, Set: s}
				want := i < len(none) || op == api.OpSet && i < len(normal)
				want = want && (at < 2 || op == api.OpMatch)
				if May(p) != want || sound(p) != want || (len(Reach(p, []int{0, 1, 2}, true, true)) == 3) != want {
					t.Errorf("instruction %d is op %d with the set %+q: %v", at, op, s, !want)
				}
			}
		}
	}
}

// reaches sees to it that Reach answers that, and the chapter's words, too.
func reaches(t *testing.T, form string, from []int, begin, end bool, want ...int) {
	t.Helper()
	p := made(form)
	if l := Reach(p, from, begin, end); !slices.Equal(l, want) || !slices.Equal(reached(p, from, begin, end), want) {
		t.Errorf("Reach of %s from %v, %v %v: %v, but should be %v", form, from, begin, end, l, want)
	}
}

// P8.1, Reach: what each kind of instruction lets on, and numbers to reach from.
func TestReach(t *testing.T) {
	for _, ends := range [][2]bool{{false, false}, {false, true}, {true, false}, {true, true}} {
		begin, end := ends[0], ends[1]
		reaches(t, "a M", []int{0}, begin, end, 0)
		reaches(t, "M a M", []int{0}, begin, end, 0)
		reaches(t, "j2 a M", []int{0}, begin, end, 0, 2)
		reaches(t, "a M j0 M", []int{2}, begin, end, 0, 2)
		reaches(t, "x1,3 a M b M", []int{0}, begin, end, 0, 1, 3)
		reaches(t, "x3,1 a M b M", []int{0}, begin, end, 0, 1, 3)
		reaches(t, "a b x0,0 M", []int{2}, begin, end, 0, 2)
		reaches(t, "x1,4 x2,3 a b j5 M", []int{0}, begin, end, 0, 1, 2, 3, 4, 5)
		// rings
		reaches(t, "j0 M", []int{0}, begin, end, 0)
		reaches(t, "j1 j2 j0 M", []int{0}, begin, end, 0, 1, 2)
		reaches(t, "j1 j2 j0 M", []int{2}, begin, end, 0, 1, 2)
		reaches(t, "x0,0 M", []int{0}, begin, end, 0)
		reaches(t, "x1,2 j0 M", []int{0}, begin, end, 0, 1, 2)
		reaches(t, "x1,0 x0,1 M", []int{1}, begin, end, 0, 1)
		reaches(t, "j4 a x3,5 j2 x2,0 b M", []int{4}, begin, end, 0, 2, 3, 4, 5)
		// from several, from none, and from numbers that are none of an instruction
		reaches(t, "a b c M", nil, begin, end)
		reaches(t, "a b c M", []int{}, begin, end)
		reaches(t, "a b c M", []int{3, 0}, begin, end, 0, 3)
		reaches(t, "a b c M", []int{2, 2, 1, 2, 1}, begin, end, 1, 2)
		reaches(t, "a j3 c M", []int{1, 3, 1}, begin, end, 1, 3)
		reaches(t, "a j3 c M", []int{-1, 4, 5, math.MinInt, math.MaxInt, 1 << 32, 1<<32 + 1}, begin, end)
		reaches(t, "a j3 c M", []int{-1, 4, 2, 4, 100, 1, -7}, begin, end, 1, 2, 3)
		reaches(t, "a j3 c M", append([]int{0}, wild...), begin, end, 0)
		reaches(t, "M", []int{0, 1, -1}, begin, end, 0)
		// of one that may not be
		reaches(t, "a j4 c M", []int{0, 1, 2, 3}, begin, end)
		reaches(t, "a M a", []int{0, 1, 2}, begin, end)
		reaches(t, "", []int{0, -1}, begin, end)
	}
	for _, c := range []struct {
		form                     string
		neither, one, other, all []int // from 0: with neither, with begin, with end, with both
	}{
		{"^ M", []int{0}, []int{0, 1}, []int{0}, []int{0, 1}}, {"$ M", []int{0}, []int{0}, []int{0, 1}, []int{0, 1}}, {"^ ^ M", []int{0}, []int{0, 1, 2}, []int{0}, []int{0, 1, 2}}, {"$ $ M", []int{0}, []int{0}, []int{0, 1, 2}, []int{0, 1, 2}}, {"^ $ M", []int{0}, []int{0, 1}, []int{0}, []int{0, 1, 2}},
		{"$ ^ M", []int{0}, []int{0}, []int{0, 1}, []int{0, 1, 2}}, {"x1,3 ^ a $ M", []int{0, 1, 3}, []int{0, 1, 2, 3}, []int{0, 1, 3, 4}, []int{0, 1, 2, 3, 4}}, {"^ j3 M $ j0 M", []int{0}, []int{0, 1, 3}, []int{0}, []int{0, 1, 3, 4}}, {"x1,4 ^ $ j0 M", []int{0, 1, 4}, []int{0, 1, 2, 4}, []int{0, 1, 4}, []int{0, 1, 2, 3, 4}}, {"j2 M $ a ^ M", []int{0, 2}, []int{0, 2}, []int{0, 2, 3}, []int{0, 2, 3}},
	} {
		reaches(t, c.form, []int{0}, false, false, c.neither...)
		reaches(t, c.form, []int{0}, true, false, c.one...)
		reaches(t, c.form, []int{0}, false, true, c.other...)
		reaches(t, c.form, []int{0}, true, true, c.all...)
	}
}

// rolled is a program without any order.
func rolled(d *dice, n int) []api.Instr {
	p := make([]api.Instr, 0, n)
	for len(p) < n-1 {
		x := api.Instr{Op: pick(d, api.OpSplit, api.OpSplit, api.OpJump, api.OpBegin, api.OpEnd, api.OpSet, api.OpMatch)}
		switch x.Op {
		case api.OpSplit:
			x.X, x.Y = d.roll(n), d.roll(n)
		case api.OpJump:
			x.X = d.roll(n)
		case api.OpSet:
			x.Set = set("a")
		}
		p = append(p, x)
	}
	return append(p, api.Instr{Op: api.OpMatch})
}

// P8.1 and P8.3, all programs of three instructions and a match, from all lists of
// up to two numbers, against the chapter's words.
func TestShortPrograms(t *testing.T) {
	const n = 4
	var all []api.Instr
	for x := range n {
		all = append(all, api.Instr{Op: api.OpJump, X: x})
		for y := range n {
			all = append(all, api.Instr{Op: api.OpSplit, X: x, Y: y})
		}
	}
	all = append(all, made("a ^ $ M")...)
	p := slices.Repeat(made("M"), n)
	for i := range len(all) * len(all) * len(all) {
		p[0], p[1], p[2] = all[i%len(all)], all[i/len(all)%len(all)], all[i/len(all)/len(all)]
		begin, end := i&1 == 1, i/3&1 == 1
		for from := range n {
			l := Reach(p, []int{from}, begin, end)
			if !slices.Equal(l, reached(p, []int{from}, begin, end)) {
				t.Fatalf("Reach of %s from %d, %v %v: %v", told(p), from, begin, end, l)
			}
			two := []int{(from + 1) % n, from}
			lawful(t, p, two, l, begin, end)
		}
	}
}

// lawful sees to it that Reach of Reach is Reach, and that of two lists together both
// together.
func lawful(t *testing.T, p []api.Instr, a, b []int, begin, end bool) {
	t.Helper()
	one, other := Reach(p, a, begin, end), Reach(p, b, begin, end)
	both := append(slices.Clone(one), other...)
	slices.Sort(both)
	both = slices.Compact(both)
	if l := Reach(p, slices.Concat(a, b), begin, end); !slices.Equal(l, both) {
		t.Fatalf("Reach of %s from %v and %v: %v, but of both %v", told(p), a, b, l, both)
	}
	if l := Reach(p, one, begin, end); !slices.Equal(l, one) {
		t.Fatalf("Reach of %s from %v: %v, and of that %v", told(p), a, one, l)
	}
	if !slices.IsSorted(one) || len(slices.Compact(slices.Clone(one))) != len(one) {
		t.Fatalf("Reach of %s from %v: %v", told(p), a, one)
	}
}

// P8.1 and P8.3, long programs: without an order, and of patterns.
func TestLongPrograms(t *testing.T) {
	var d dice
	for i := range 3000 {
		p := rolled(&d, 1+d.roll(60))
		if i%100 == 0 {
			p = rolled(&d, api.MaxWeight)
		}
		if i%3 == 0 {
			g := grower{d}
			p, _ = Compile(g.grow(1 + i%100))
			d = g.dice
		}
		var lists [2][]int
		for k := range lists {
			for range d.roll(6) {
				lists[k] = append(lists[k], d.roll(len(p)+4)-2)
			}
		}
		begin, end := d.roll(2) == 1, d.roll(2) == 1
		if l, want := Reach(p, lists[0], begin, end), reached(p, lists[0], begin, end); !slices.Equal(l, want) {
			t.Fatalf("Reach of %s from %v, %v %v: %v, but should be %v", told(p), lists[0], begin, end, l, want)
		}
		lawful(t, p, lists[0], lists[1], begin, end)
	}
}

// R1, Reach: chains as long as a program, in either direction, and as many numbers as
// one likes.
func TestReachOfMany(t *testing.T) {
	const n = api.MaxWeight
	on, back, fan := slices.Repeat(made("M"), n), slices.Repeat(made("M"), n), slices.Repeat(made("M"), n)
	for i := range n - 1 {
		on[i] = api.Instr{Op: api.OpJump, X: i + 1}
		back[i] = api.Instr{Op: api.OpSplit, X: max(i-1, 0), Y: (i + 7) % n}
		fan[i] = api.Instr{Op: api.OpSplit, X: min(2*i+1, n-1), Y: min(2*i+2, n-1)}
	}
	many := make([]int, 300000)
	for i := range many {
		many[i] = i%(3*n) - n
	}
	for _, p := range [][]api.Instr{on, back, fan} {
		if l := Reach(p, []int{0}, false, false); len(l) != n || l[0] != 0 || l[n-1] != n-1 {
			t.Error("not all was reached", len(l))
		}
		if l := Reach(p, many, false, false); len(l) != n {
			t.Error("not all was reached", len(l))
		}
	}
	if l := Reach(on, []int{n - 2}, true, true); !slices.Equal(l, []int{n - 2, n - 1}) {
		t.Error(l)
	}
}

// R3, May and Reach: what is handed in is left as it is, spare room and all; an
// answer is new memory.
func TestReachMemory(t *testing.T) {
	room := append(made("x4,1 a ^ . x2,0 $ e\u0301 M"), made("j99 b")...)
	room[1].Set = segset.Not(segset.Of("e\u0301"))
	p := room[:8]
	was := copyOf(room)
	from := []int{4, 99, 0, 4, -3, 77, 12}[:5]
	first := Reach(p, from, true, true)
	second := Reach(p, from, true, true)
	May(p)
	May(room)
	Reach(room, from, true, true)
	if !alike(room, was) || !slices.Equal(from[:7], []int{4, 99, 0, 4, -3, 77, 12}) {
		t.Error("what was handed in was changed", told(room), from[:7])
	}
	want := []int{0, 1, 2, 3, 4}
	if !slices.Equal(first, want) || !slices.Equal(second, want) {
		t.Error(first, second)
	}
	for i := range first[:cap(first)] {
		first[:cap(first)][i] = 5
	}
	if !slices.Equal(second, want) || !slices.Equal(from[:7], []int{4, 99, 0, 4, -3, 77, 12}) || !slices.Equal(Reach(p, from, true, true), want) {
		t.Error("an answer shares memory")
	}
	rising := []int{0, 1, 3}
	l := Reach(made("a b M M"), rising, false, false)
	l[0] = 9
	if rising[0] != 0 || strings.Contains(told(p), "?") {
		t.Error("an answer is what was handed in")
	}
}
