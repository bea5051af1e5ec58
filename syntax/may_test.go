package syntax

import (
	"math"
	"slices"
	"strings"
	"testing"

	"trema/api"
	"trema/segset"
)

// takeLast takes the last thing from steps, going from the back, and says what is
// left ahead of it, and whether there was one.
func takeLast(l []api.Node) ([]api.Node, bool) {
	if len(l) == 0 {
		return nil, false
	}
	n := l[len(l)-1]
	l = l[:len(l)-1]
	ok := true
	for range map[int]int{api.NodeRepeat: 1, api.NodeCat: 2, api.NodeOr: 2}[n.Kind] {
		if ok {
			l, ok = takeLast(l)
		}
	}
	return l, ok && n.Kind >= api.NodeEmpty && n.Kind <= api.NodeRepeat
}

// formed is what the chapter's words say of steps whose fields may be.
func formed(l []api.Node) bool {
	left, ok := takeLast(l)
	return ok && len(left) == 0
}

// P7.1, May: all short lists of all kinds.
func TestMayOfKinds(t *testing.T) {
	var l []api.Node
	var grow func(left int)
	grow = func(left int) {
		if May(l) != formed(l) {
			t.Fatalf("May(%v): %v", l, !formed(l))
		}
		if left == 0 {
			return
		}
		for kind := -1; kind <= api.NodeRepeat+1; kind++ {
			l = append(l, api.Node{Kind: kind})
			grow(left - 1)
			l = l[:len(l)-1]
		}
	}
	grow(5)
	for _, kind := range []int{math.MinInt, -7, 100, 1 << 32, 1<<32 + 1, 1<<32 + api.NodeSet, math.MaxInt} {
		if May([]api.Node{{Kind: kind}}) || May([]api.Node{empty, {Kind: kind}}) || May([]api.Node{{Kind: kind}, empty, cat}) {
			t.Errorf("a node of kind %d", kind)
		}
	}
}

// P7.1, May: longer lists, operators without operands, and things that are left.
func TestMayOfLists(t *testing.T) {
	a, b := text("a"), text("b")
	for _, c := range []struct {
		l    []api.Node
		want bool
	}{
		{nil, false}, {[]api.Node{}, false}, {are(a).steps, true}, {are(empty).steps, true}, {are(begin).steps, true}, {are(end).steps, true}, {are(cat).steps, false}, {are(or).steps, false}, {are(star).steps, false},
		{are(a, b).steps, false}, {are(a, b, cat).steps, true}, {are(a, b, or).steps, true}, {are(a, star).steps, true}, {are(a, star, star).steps, true}, {are(a, cat).steps, false}, {are(a, or).steps, false}, {are(a, b, cat, cat).steps, false},
		{are(a, cat, b).steps, false}, {are(cat, a, b).steps, false}, {are(star, a).steps, false}, {are(a, or, b, or, b, b).steps, false}, {are(a, b, b, cat).steps, false}, {are(a, b, b, cat, or).steps, true}, {are(a, b, cat, b, or).steps, true},
		{are(a, b, star, cat).steps, true}, {are(a, b, star).steps, false}, {are(begin, a, cat, end, cat).steps, true}, {are(empty, empty, empty, cat, cat, empty, or).steps, true}, {are(a, cat, b, b).steps, false}, {are(or, a, b, a).steps, false},
	} {
		if May(c.l) != c.want {
			t.Errorf("May(%s): %v", told(c.l), !c.want)
		}
	}
	long := []api.Node{a}
	for range 100000 {
		long = append(long, b)
	}
	for range 100000 {
		if May(long) {
			t.Fatal("a list with things left")
		}
		long = append(long, cat)
		if len(long) > 100020 {
			break
		}
	}
	for len(long) < 200001 {
		long = append(long, or)
	}
	if !May(long) || May(append(long, cat)) || May(append(long, a)) || !May(append(long, star)) {
		t.Error("a long list")
	}
}

// P7.1, May: how often.
func TestMayOfTimes(t *testing.T) {
	numbers := []int{math.MinInt, -65, -2, -1, 0, 1, 2, 3, 63, 64, 65, 66, 1 << 32, 1<<32 + 1, math.MaxInt - 1, math.MaxInt}
	for _, least := range numbers {
		for _, most := range numbers {
			want := 0 <= least && least <= 64 && (most == -1 || least <= most && most <= 64)
			if May(are(text("a"), times(least, most)).steps) != want {
				t.Errorf("repeated %d to %d times: %v", least, most, !want)
			}
			for _, n := range []api.Node{empty, begin, end, text("a"), cat, or} {
				n.Min, n.Max = least, most
				l := are(n).steps
				if n.Kind == api.NodeCat || n.Kind == api.NodeOr {
					l = are(empty, empty, n).steps
				}
				if want := least == 0 && most == 0; May(l) != want || May(append(l, star)) != want {
					t.Errorf("kind %d with %d to %d: %v", n.Kind, least, most, !want)
				}
			}
		}
	}
}

// P7.1, May: sets, which are normal for those that have one, and none for others.
func TestMayOfSets(t *testing.T) {
	normal := []api.Set{{}, {Single: []api.Range{}, Odd: []string{}}, segset.All(), text("a").Set, text("e\u0301").Set, {Multi: pairs('a', 'b', 'd', 'z')}, {Single: pairs(0, api.MaxRune), Odd: []string{"ab", "ac"}}, {Single: pairs(0xD800, 0xDFFF)}}
	wrong := []api.Set{
		{Single: pairs('b', 'a')}, {Single: pairs('a', 'b', 'c', 'd')}, {Single: pairs('c', 'd', 'a', 'a')}, {Single: pairs(-1, 5)}, {Single: pairs(5, api.MaxRune+1)}, {Single: pairs('a', 'a', 'a', 'a')}, {Multi: pairs('b', 'a')}, {Multi: pairs('a', 'c', 'b', 'd')},
		{Odd: []string{"a"}}, {Odd: []string{""}}, {Odd: []string{"\xFF\xFF"}}, {Odd: []string{"ac", "ab"}}, {Odd: []string{"ab", "ab"}}, {Single: pairs('a', 'a'), Multi: pairs('a', 'a'), Odd: []string{"ab", "a"}}, {Odd: []string{"e\xCC"}},
	}
	for _, s := range normal {
		if !May(are(node(s)).steps) || !May(are(empty, node(s), or, star).steps) {
			t.Errorf("%q is normal", s)
		}
	}
	for _, s := range wrong {
		if May(are(node(s)).steps) || May(are(text("a"), node(s), cat).steps) || May(are(node(s), text("a"), cat).steps) {
			t.Errorf("%q isn't normal", s)
		}
	}
	for i, s := range append(normal, wrong...) {
		for _, n := range []api.Node{empty, begin, end, star, cat, or, times(2, 3)} {
			n.Set = s
			l := are(text("a"), n).steps[1-min(1, operands(n.Kind)):]
			if n.Kind == api.NodeCat || n.Kind == api.NodeOr {
				l = are(empty, text("a"), n).steps
			}
			if want := i < 2; May(l) != want {
				t.Errorf("kind %d with the set %q: %v", n.Kind, s, !want)
			}
		}
	}
}

// P7.3 and R3: what Parse answers may be; May leaves all as it is.
func TestMayOfPatterns(t *testing.T) {
	patterns(3000, func(d *dice, in string, _ []api.Node) {
		l := parse(in).steps
		if !May(l) || !formed(l) {
			t.Fatalf("%+q: %s", in, told(l))
		}
		if May(l[:len(l)-1]) != formed(l[:len(l)-1]) || May(l[1:]) != formed(l[1:]) {
			t.Fatalf("%+q, but for one step", in)
		}
	})
	l := parse(`a|[^b-d` + "\u00E9" + `]{2,3}\p{L}`).steps
	l = append(l, node(api.Set{Single: pairs(9, 1, 3, 4, 3, 3), Multi: pairs(9, 9, 8, 8), Odd: []string{"b", "ab", "aa"}}), cat)
	was := slices.Clone(l)
	for i := range l {
		was[i].Set = api.Set{Single: slices.Clone(l[i].Set.Single), Multi: slices.Clone(l[i].Set.Multi), Odd: slices.Clone(l[i].Set.Odd)}
	}
	if May(l) || May(l[:len(l)-1]) || !May(l[:len(l)-2]) || !alike(l, was) || strings.Count(told(l), "[") != 4 {
		t.Errorf("%s, but was %s", told(l), told(was))
	}
}
