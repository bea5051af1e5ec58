package rset

import (
	"math"
	"slices"
	"testing"

	"trema/api"
)

// The least int32, MaxRune and the greatest int32, for short.
const (
	low  = math.MinInt32
	top  = api.MaxRune
	high = math.MaxInt32
)

// P5.1, Norm, May, Not and Count: the chapter's examples, and the edges.
func TestOneList(t *testing.T) {
	for _, c := range []struct {
		in, norm, not []api.Range
		count         int
	}{
		{pairs(5, 9, 1, 3, 4, 4, 8, 7), pairs(1, 9), pairs(0, 0, 10, top), 9},
		{pairs(0, 10), pairs(0, 10), pairs(11, top), 11},
		{pairs(-5, 2), pairs(0, 2), pairs(3, top), 3},
		{pairs(1, 3, 2, 5), pairs(1, 5), pairs(0, 0, 6, top), 5},
		// nothing and all
		{nil, nil, pairs(0, top), 0},
		{[]api.Range{}, nil, pairs(0, top), 0},
		{pairs(0, top), pairs(0, top), nil, top + 1},
		{pairs(low, high), pairs(0, top), nil, top + 1},
		{pairs(6, top, 0, 5), pairs(0, top), nil, top + 1},
		// single numbers, at both ends, within and without
		{pairs(0, 0), pairs(0, 0), pairs(1, top), 1},
		{pairs(1, 1), pairs(1, 1), pairs(0, 0, 2, top), 1},
		{pairs(top, top), pairs(top, top), pairs(0, top-1), 1},
		{pairs(top-1, top-1), pairs(top-1, top-1), pairs(0, top-2, top, top), 1},
		{pairs(-1, -1), nil, pairs(0, top), 0},
		{pairs(top+1, top+1), nil, pairs(0, top), 0},
		{pairs(low, low, high, high), nil, pairs(0, top), 0},
		// ranges that reach beyond the ends
		{pairs(-1, 0), pairs(0, 0), pairs(1, top), 1},
		{pairs(top, top+1), pairs(top, top), pairs(0, top-1), 1},
		{pairs(low, 0), pairs(0, 0), pairs(1, top), 1},
		{pairs(top, high), pairs(top, top), pairs(0, top-1), 1},
		{pairs(low, -1, top+1, high), nil, pairs(0, top), 0},
		{pairs(-3, top-1), pairs(0, top-1), pairs(top, top), top},
		{pairs(1, top+3), pairs(1, top), pairs(0, 0), top},
		// Lo above Hi: nothing, wherever it lies
		{pairs(high, low), nil, pairs(0, top), 0},
		{pairs(1, 0), nil, pairs(0, top), 0},
		{pairs(top, top-1, top+1, top, 0, -1, 3, -3), nil, pairs(0, top), 0},
		{pairs(5, 3, 2, 6), pairs(2, 6), pairs(0, 1, 7, top), 5},
		{pairs(2, 3, 9, 4, 6, 7), pairs(2, 3, 6, 7), pairs(0, 1, 4, 5, 8, top), 4},
		// that touch, are one apart, overlap, lie in one another, are the same
		{pairs(1, 2, 3, 4), pairs(1, 4), pairs(0, 0, 5, top), 4},
		{pairs(1, 2, 4, 5), pairs(1, 2, 4, 5), pairs(0, 0, 3, 3, 6, top), 4},
		{pairs(4, 5, 1, 2), pairs(1, 2, 4, 5), pairs(0, 0, 3, 3, 6, top), 4},
		{pairs(1, 5, 3, 9), pairs(1, 9), pairs(0, 0, 10, top), 9},
		{pairs(1, 9, 3, 5), pairs(1, 9), pairs(0, 0, 10, top), 9},
		{pairs(3, 5, 1, 9, 4, 4), pairs(1, 9), pairs(0, 0, 10, top), 9},
		{pairs(1, 5, 5, 9), pairs(1, 9), pairs(0, 0, 10, top), 9},
		{pairs(1, 5, 1, 9, 1, 3), pairs(1, 9), pairs(0, 0, 10, top), 9},
		{pairs(1, 9, 4, 9, 9, 9), pairs(1, 9), pairs(0, 0, 10, top), 9},
		{pairs(2, 4, 2, 4, 2, 4, 2, 4), pairs(2, 4), pairs(0, 1, 5, top), 3},
		// surrogates are numbers like any others
		{pairs(0xD800, 0xDFFF), pairs(0xD800, 0xDFFF), pairs(0, 0xD7FF, 0xE000, top), 0x800},
		{pairs(0xD7FF, 0xD7FF, 0xE000, 0xE000), pairs(0xD7FF, 0xD7FF, 0xE000, 0xE000), pairs(0, 0xD7FE, 0xD800, 0xDFFF, 0xE001, top), 2},
	} {
		same(t, "Norm", Norm(c.in), c.norm)
		same(t, "Not", Not(c.in), c.not)
		same(t, "Not of Not", Not(c.not), c.norm)
		if Count(c.in) != c.count || Count(c.norm) != c.count || Count(c.not) != top+1-c.count {
			t.Errorf("Count of %v: %d, but should be %d", c.in, Count(c.in), c.count)
		}
		if May(c.in) != slices.Equal(c.in, c.norm) || !May(c.norm) || !May(c.not) {
			t.Errorf("May(%v): %v", c.in, May(c.in))
		}
		if !Equal(c.in, c.norm) || !Equal(c.norm, c.in) || Equal(c.in, c.not) || Equal(c.not, c.in) {
			t.Errorf("Equal of %v and others", c.in)
		}
	}
}

// P5.1, Union, Meet and Minus: the chapter's examples, and the edges.
func TestTwoLists(t *testing.T) {
	all := pairs(0, top)
	for _, c := range []struct{ a, b, union, meet, minus, other []api.Range }{
		{pairs(0, 9), pairs(3, 4), pairs(0, 9), pairs(3, 4), pairs(0, 2, 5, 9), nil},
		{pairs(0, 5), pairs(3, 9), pairs(0, 9), pairs(3, 5), pairs(0, 2), pairs(6, 9)},
		{nil, nil, nil, nil, nil, nil},
		{nil, all, all, nil, nil, all},
		{all, all, all, all, nil, nil},
		{pairs(low, high), all, all, all, nil, nil},
		{all, pairs(5, 5), all, pairs(5, 5), pairs(0, 4, 6, top), nil},
		{all, pairs(0, 0, top, top), all, pairs(0, 0, top, top), pairs(1, top-1), nil},
		// lists that touch, and that are one apart
		{pairs(1, 2), pairs(3, 4), pairs(1, 4), nil, pairs(1, 2), pairs(3, 4)},
		{pairs(1, 2), pairs(4, 5), pairs(1, 2, 4, 5), nil, pairs(1, 2), pairs(4, 5)},
		{pairs(1, 1, 3, 3), pairs(2, 2, 4, 4), pairs(1, 4), nil, pairs(1, 1, 3, 3), pairs(2, 2, 4, 4)},
		{pairs(1, 3), pairs(3, 5), pairs(1, 5), pairs(3, 3), pairs(1, 2), pairs(4, 5)},
		{pairs(1, 5), pairs(1, 3), pairs(1, 5), pairs(1, 3), pairs(4, 5), nil},
		{pairs(1, 5), pairs(3, 5), pairs(1, 5), pairs(3, 5), pairs(1, 2), nil},
		{pairs(4, 4), pairs(4, 4), pairs(4, 4), pairs(4, 4), nil, nil},
		// ranges of one list that touch or overlap, over ranges of the other
		{pairs(1, 3, 4, 6), pairs(3, 4), pairs(1, 6), pairs(3, 4), pairs(1, 2, 5, 6), nil},
		{pairs(1, 6, 2, 5), pairs(3, 3), pairs(1, 6), pairs(3, 3), pairs(1, 2, 4, 6), nil},
		{pairs(1, 6, 1, 6, 1, 6), pairs(4, 9, 4, 9), pairs(1, 9), pairs(4, 6), pairs(1, 3), pairs(7, 9)},
		{pairs(7, 9, 1, 3), pairs(2, 8), pairs(1, 9), pairs(2, 3, 7, 8), pairs(1, 1, 9, 9), pairs(4, 6)},
		// what one list has twice isn't in both
		{pairs(1, 3, 1, 3), nil, pairs(1, 3), nil, pairs(1, 3), nil},
		{pairs(1, 3, 2, 4), pairs(6, 6), pairs(1, 4, 6, 6), nil, pairs(1, 4), pairs(6, 6)},
		// beyond the ends, and what means nothing
		{pairs(-3, 3), pairs(-9, 1), pairs(0, 3), pairs(0, 1), pairs(2, 3), nil},
		{pairs(top-3, high), pairs(top-1, top+1), pairs(top-3, top), pairs(top-1, top), pairs(top-3, top-2), nil},
		{pairs(-1, -1), pairs(-1, -1), nil, nil, nil, nil},
		{pairs(top+1, high), pairs(low, -1), nil, nil, nil, nil},
		{pairs(9, 1), pairs(1, 9), pairs(1, 9), nil, nil, pairs(1, 9)},
		{pairs(high, low), pairs(low, high), all, nil, nil, all},
		{pairs(3, 3, 5, 4), pairs(4, 3, 5, 5), pairs(3, 3, 5, 5), nil, pairs(3, 3), pairs(5, 5)},
	} {
		same(t, "Union", Union(c.a, c.b), c.union)
		same(t, "Union the other way", Union(c.b, c.a), c.union)
		same(t, "Meet", Meet(c.a, c.b), c.meet)
		same(t, "Meet the other way", Meet(c.b, c.a), c.meet)
		same(t, "Minus", Minus(c.a, c.b), c.minus)
		same(t, "Minus the other way", Minus(c.b, c.a), c.other)
		if want := len(c.minus)+len(c.other) == 0; Equal(c.a, c.b) != want || Equal(c.b, c.a) != want {
			t.Errorf("Equal(%v, %v): %v", c.a, c.b, !want)
		}
	}
}

// P5.1, lists that are normal, and lists that just miss it.
func TestMay(t *testing.T) {
	for _, c := range []struct {
		in   []api.Range
		want bool
	}{
		{nil, true}, {[]api.Range{}, true}, {pairs(0, top), true}, {pairs(0, 0), true}, {pairs(top, top), true},
		{pairs(1, 2, 4, 5), true}, {pairs(0, 0, 2, 2, 4, 4), true}, {pairs(0, 0, top, top), true},
		{pairs(0, top-2, top, top), true},
		{pairs(1, 2, 3, 5), false}, {pairs(1, 2, 2, 5), false}, {pairs(1, 5, 3, 4), false}, {pairs(4, 5, 1, 2), false},
		{pairs(1, 2, 1, 2), false}, {pairs(0, top-1, top, top), false},
		{pairs(2, 1), false}, {pairs(1, 2, 5, 4), false}, {pairs(5, 4, 7, 8), false}, {pairs(high, low), false},
		{pairs(-1, 5), false}, {pairs(-1, -1), false}, {pairs(low, low, 3, 4), false}, {pairs(-9, -5, 1, 2), false},
		{pairs(0, top+1), false}, {pairs(top+1, top+1), false}, {pairs(1, 2, top+2, high), false}, {pairs(1, high), false},
		{pairs(1, 2, high, high), false}, {pairs(1, high, low, 5), false}, {pairs(1, high-1, low, 5), false},
	} {
		if May(c.in) != c.want || normal(c.in) != c.want {
			t.Errorf("May(%v): %v", c.in, May(c.in))
		}
	}
}

// P5.1, Has: numbers beyond the ends are in no set, though a range goes over them.
func TestHas(t *testing.T) {
	for _, l := range [][]api.Range{
		nil, pairs(1, 3), pairs(5, 9, 1, 3, 4, 4, 8, 7), pairs(low, high), pairs(-5, 2), pairs(top-1, top+9),
		pairs(-9, -1), pairs(top+1, high), pairs(high, low), pairs(9, 1), pairs(7, 7, 7, 7), pairs(0, 0, top, top),
		pairs(low, low, high, high), pairs(1, 9, 3, 4), pairs(3, 3, 5, 5), pairs(0xD800, 0xDFFF),
	} {
		for _, n := range places(l) {
			if n >= low && n <= high && Has(l, int32(n)) != in(l, n) {
				t.Errorf("Has(%v, %d): %v", l, n, Has(l, int32(n)))
			}
		}
	}
	for _, n := range []int32{low, -1, top + 1, high} {
		if Has(pairs(low, high), n) || Has(pairs(n, n), n) {
			t.Errorf("%d is in a set", n)
		}
	}
}

// P5.1 and P5.2, every range of all ends, alone.
func TestEveryRange(t *testing.T) {
	all := func(int64) bool { return true }
	for _, lo := range ends {
		for _, hi := range ends {
			l := pairs(lo, hi)
			is := func(n int64) bool { return int64(lo) <= n && n <= int64(hi) }
			members(t, "Norm", Norm(l), l, nil, is)
			members(t, "Not", Not(l), l, nil, func(n int64) bool { return !is(n) })
			members(t, "Union with Not", Union(Not(l), l), l, nil, all)
			if want := max(0, min(int64(hi), top)-max(int64(lo), 0)+1); int64(Count(l)) != want {
				t.Errorf("Count(%v): %d, but should be %d", l, Count(l), want)
			}
			if May(l) != normal(l) || Equal(l, nil) != (Count(l) == 0) {
				t.Errorf("May(%v): %v, Equal to nothing: %v", l, May(l), Equal(l, nil))
			}
			for _, n := range ends {
				if Has(l, n) != in(l, int64(n)) {
					t.Errorf("Has(%v, %d): %v", l, n, Has(l, n))
				}
			}
		}
	}
}

// P5.1 and P5.2, all short lists of a few ranges, in every order.
func TestShortLists(t *testing.T) {
	eachOf(few, 3, func(l []api.Range) {
		was := slices.Clone(l)
		norm := Norm(l)
		members(t, "Norm", norm, l, nil, func(n int64) bool { return in(l, n) })
		members(t, "Not", Not(l), l, nil, func(n int64) bool { return !in(l, n) })
		count := 0
		for _, x := range norm {
			count += int(x.Hi) - int(x.Lo) + 1
		}
		if Count(l) != count || May(l) != normal(l) || !Equal(l, norm) {
			t.Fatalf("%v: Count %d, May %v, Equal %v", l, Count(l), May(l), Equal(l, norm))
		}
		for _, n := range []int32{low, -1, 0, 1, 2, 3, 6, 7, 9, 10, top - 2, top - 1, top, top + 1, high} {
			if Has(l, n) != in(l, int64(n)) {
				t.Fatalf("Has(%v, %d): %v", l, n, Has(l, n))
			}
		}
		same(t, "what was handed in", l, was)
	})
}

// P5.1 to P5.3, all pairs of short lists of a few ranges.
func TestPairsOfShortLists(t *testing.T) {
	eachOf(few, 2, func(a []api.Range) {
		a = slices.Clone(a)
		eachOf(few, 2, func(b []api.Range) {
			if len(a)+len(b) == 4 && (a[0].Lo > a[1].Lo || b[0].Lo > b[1].Lo) {
				return // the other order of the same, to be quick
			}
			held(t, a, b)
		})
	})
}

// held holds all that the promises say of two lists.
func held(t *testing.T, a, b []api.Range) {
	t.Helper()
	union, meet, minus := Union(a, b), Meet(a, b), Minus(a, b)
	members(t, "Union", union, a, b, func(n int64) bool { return in(a, n) || in(b, n) })
	members(t, "Meet", meet, a, b, func(n int64) bool { return in(a, n) && in(b, n) })
	members(t, "Minus", minus, a, b, func(n int64) bool { return in(a, n) && !in(b, n) })
	equal := true
	for _, n := range places(a, b) {
		equal = equal && in(a, n) == in(b, n)
	}
	if Equal(a, b) != equal {
		t.Fatalf("Equal(%v, %v): %v", a, b, !equal)
	}
	algebra(t, a, b)
}

// algebra holds the laws of P5.3, and some that follow from P5.2.
func algebra(t *testing.T, a, b []api.Range) {
	t.Helper()
	same(t, "Not of Not", Not(Not(a)), Norm(a))
	same(t, "Not of Union", Not(Union(a, b)), Meet(Not(a), Not(b)))
	same(t, "Not of Meet", Not(Meet(a, b)), Union(Not(a), Not(b)))
	same(t, "Meet with Not", Meet(a, Not(b)), Minus(a, b))
	same(t, "Norm", Norm(a), Union(a, a))
	if got := Count(Union(a, b)) + Count(Meet(a, b)); got != Count(a)+Count(b) {
		t.Fatalf("Count of Union and Meet of %v and %v: %d, but should be %d", a, b, got, Count(a)+Count(b))
	}
	if Count(a)+Count(Not(a)) != top+1 {
		t.Fatalf("Count of %v and of Not: %d and %d", a, Count(a), Count(Not(a)))
	}
}

// P5.1 to P5.3, long lists in no order, against tables of all numbers.
func TestLongLists(t *testing.T) {
	for i, c := range []struct{ many, wide, more, wider int }{
		{300, 9, 3000, 900}, {40, 90000, 500, 3000}, {20000, 60, 20000, 60}, {1, 4, 9000, 300}, {200000, 12, 9, 400000},
	} {
		a, b := many(uint32(i), c.many, c.wide), many(uint32(i+100), c.more, c.wider)
		inA, inB := table(a), table(b)
		union, meet, minus, not := table(nil), table(nil), table(nil), table(nil)
		count := 0
		for n := range inA {
			union[n], meet[n], minus[n], not[n] = inA[n] || inB[n], inA[n] && inB[n], inA[n] && !inB[n], !inA[n]
			if inA[n] {
				count++
			}
		}
		same(t, "Norm", Norm(a), listed(inA))
		same(t, "Union", Union(a, b), listed(union))
		same(t, "Meet", Meet(a, b), listed(meet))
		same(t, "Minus", Minus(a, b), listed(minus))
		same(t, "Not", Not(a), listed(not))
		if Count(a) != count || May(a) != normal(a) || !May(Norm(a)) || !Equal(a, listed(inA)) || Equal(a, listed(not)) {
			t.Errorf("%d ranges: Count %d, but should be %d", len(a), Count(a), count)
		}
		for n := int32(0); n <= top; n += 997 {
			if Has(a, n) != inA[n] {
				t.Fatalf("Has(a, %d): %v", n, Has(a, n))
			}
		}
		algebra(t, a, b)
	}
}

// P5.1 and P5.2, long lists whose normal list is known: one range again and again,
// single numbers that touch and that don't, and ranges in one another.
func TestLongListsOfOneKind(t *testing.T) {
	var again, odd, touching, nested, nothing, oddWant []api.Range
	for i := range int32(100000) {
		again = append(again, api.Range{Lo: 5, Hi: 9})
		odd = append(odd, api.Range{Lo: 199999 - 2*i, Hi: 199999 - 2*i})
		oddWant = append(oddWant, api.Range{Lo: 1 + 2*i, Hi: 1 + 2*i})
		k := i * 7 % 100000
		touching = append(touching, api.Range{Lo: k, Hi: k})
		nested = append(nested, api.Range{Lo: i, Hi: 300000 - i})
		nothing = append(nothing, api.Range{Lo: i + 1, Hi: i}, api.Range{Lo: -i - 2, Hi: -1}, api.Range{Lo: top + 1, Hi: top + 1 + i})
	}
	for _, c := range []struct{ in, want []api.Range }{
		{again, pairs(5, 9)}, {odd, oddWant}, {touching, pairs(0, 99999)}, {nested, pairs(0, 300000)}, {nothing, nil},
	} {
		same(t, "Norm", Norm(c.in), c.want)
		same(t, "Union", Union(c.in, c.in), c.want)
		same(t, "Meet", Meet(c.in, c.in), c.want)
		same(t, "Minus", Minus(c.in, c.in), nil)
		if !Equal(c.in, c.want) || May(c.in) || !May(c.want) {
			t.Errorf("%d ranges that mean %d", len(c.in), len(c.want))
		}
	}
	same(t, "Minus", Minus(pairs(0, 200000), odd), Union(pairs(200000, 200000), Minus(pairs(0, 199999), oddWant)))
	if Count(odd) != 100000 || Count(Not(odd)) != top+1-100000 || len(Not(odd)) != 100001 {
		t.Errorf("Count of odd numbers: %d, of others %d in %d", Count(odd), Count(Not(odd)), len(Not(odd)))
	}
}

// R3: what is handed in is left as it is, its spare room too.
func TestArgumentsAreLeftAsTheyAre(t *testing.T) {
	in := pairs(5, 9, 1, 3, 4, 4, 8, 7, -5, 2, 3, 3, 3, high, 70, 71, 73, 74, 70, 70)
	l := slices.Clone(in)
	for n := range len(l) {
		for _, f := range []func(a, b []api.Range) []api.Range{Union, Meet, Minus} {
			f(l[:n], l[n:])
			f(l[n:], l[:n])
			f(l[:n], l[:n])
		}
		Norm(l[:n])
		Not(l[:n])
		May(l[:n])
		Has(l[:n], 3)
		Count(l[:n])
		Equal(l[:n], l[n:])
		same(t, "what was handed in", l, in)
	}
}

// R3: answers are new memory, their spare room too, where the answer is what was
// handed in as well.
func TestAnswersAreNew(t *testing.T) {
	for _, c := range []struct{ a, b []api.Range }{
		{pairs(0, top), nil}, {pairs(1, 2, 4, 5), nil}, {pairs(1, 2), pairs(1, 2)}, {pairs(1, 2, 4, 5, 9, 9), pairs(0, top)},
		{nil, pairs(3, 4, 7, 8)}, {pairs(3, 1), pairs(4, 2)}, {pairs(5, 9, 1, 3, 20, 30), pairs(2, 6)},
	} {
		a, b := slices.Clone(c.a), slices.Clone(c.b)
		for _, f := range []func() []api.Range{
			func() []api.Range { return Norm(a) }, func() []api.Range { return Not(a) },
			func() []api.Range { return Union(a, b) }, func() []api.Range { return Meet(a, b) },
			func() []api.Range { return Minus(a, b) }, func() []api.Range { return Union(b, a) },
			func() []api.Range { return Meet(b, a) }, func() []api.Range { return Union(a, a) }, func() []api.Range { return Meet(a, a) },
		} {
			first, second := f(), f()
			want := slices.Clone(second)
			spoil(first)
			same(t, "the answer ahead", second, want)
			same(t, "what was handed in", a, c.a)
			same(t, "what was handed in", b, c.b)
			clear(a)
			clear(b)
			same(t, "the answer ahead", second, want)
			copy(a, c.a)
			copy(b, c.b)
			same(t, "the same call", f(), want)
		}
	}
}
