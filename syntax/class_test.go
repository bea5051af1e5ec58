package syntax

import (
	"strings"
	"testing"
	"unicode/utf8"

	"trema/api"
	"trema/rset"
	"trema/segset"
	"trema/ucd"
)

// P7.1, classes and the sets that they mean, field by field.
func TestClasses(t *testing.T) {
	top := int32(api.MaxRune)
	set := func(single, multi []api.Range, odd ...string) answer {
		return are(node(api.Set{Single: single, Multi: multi, Odd: odd}))
	}
	all, letters := pairs(0, top), ucd.Ranges(ucd.L)
	for in, want := range map[string]answer{
		"[a]": set(pairs('a', 'a'), nil), "[ab]": set(pairs('a', 'b'), nil), "[ba]": set(pairs('a', 'b'), nil), "[ac]": set(pairs('a', 'a', 'c', 'c'), nil), "[aaa]": set(pairs('a', 'a'), nil),
		"[a-c]": set(pairs('a', 'c'), nil), "[a-a]": set(pairs('a', 'a'), nil), "[a-cb-f]": set(pairs('a', 'f'), nil), "[a-cx-z]": set(pairs('a', 'c', 'x', 'z'), nil), "[x-za-c]": set(pairs('a', 'c', 'x', 'z'), nil),
		"[a-cd]": set(pairs('a', 'd'), nil), "[0-9a-fA-F]": set(pairs('0', '9', 'A', 'F', 'a', 'f'), nil), "[ a-c]": set(pairs(' ', ' ', 'a', 'c'), nil),
		// texts of more code points
		"[\u00E9]": set(nil, nil, "e\u0301"), "[e\u0301e\u0300]": set(nil, nil, "e\u0300", "e\u0301"), "[e\u00E9]": set(pairs('e', 'e'), nil, "e\u0301"), "[\u00E9\u00E9e\u0301]": set(nil, nil, "e\u0301"),
		"[\u00E9a-c]": set(pairs('a', 'c'), nil, "e\u0301"), "[\uAC01]": set(nil, nil, "\u1100\u1161\u11A8"), "[a\u0301\u0323]": set(nil, nil, "a\u0323\u0301"), "[\\\u0301]": set(nil, nil, "\\\u0301"), "[a-\u0301b]": set(pairs('a', 'b'), nil, "-\u0301"),
		"[[\u0301]\u0301-\u0301^\u0301]": set(nil, nil, "-\u0301", "[\u0301", "]\u0301", "^\u0301"), "[\u0301]": refusedAt(1), // "[" with a mark is a letter
		// categories
		`[\p{L}]`: set(letters, letters), `[\p{L}\p{N}]`: set(rset.Union(letters, ucd.Ranges(ucd.N)), rset.Union(letters, ucd.Ranges(ucd.N))), `[\p{L}+]`: set(rset.Union(letters, pairs('+', '+')), letters),
		`[+\p{L}]`: set(rset.Union(letters, pairs('+', '+')), letters), `[\p{L}a]`: set(letters, letters), `[\P{L}a]`: set(rset.Union(rset.Not(letters), pairs('a', 'a')), rset.Not(letters)),
		"[\\P{L}\u00E9]": set(rset.Not(letters), rset.Not(letters), "e\u0301"), "[\\p{L}\u00E9]": set(letters, letters), "[\u00E9\\p{L}]": set(letters, letters), "[\\p{L}*\u0301]": set(letters, letters, "*\u0301"),
		`[\p{L}\P{L}]`: set(all, all), `[^\p{L}\P{L}]`: set(nil, nil), `[\p{N}\-]`: set(rset.Union(ucd.Ranges(ucd.N), pairs('-', '-')), ucd.Ranges(ucd.N)), `[\p{L}\--.]`: set(rset.Union(letters, pairs('-', '.')), letters),
		`[0-9\p{Z}x]`: set(rset.Union(ucd.Ranges(ucd.Z), pairs('0', '9', 'x', 'x')), ucd.Ranges(ucd.Z)),
		// "^"
		"[^a]": set(pairs(0, 'a'-1, 'b', top), all), "[^a-c]": set(pairs(0, 'a'-1, 'd', top), all), "[^\u00E9]": set(all, all, "e\u0301"), "[^a\u00E9]": set(pairs(0, 'a'-1, 'b', top), all, "e\u0301"),
		"[^^]": set(pairs(0, '^'-1, '^'+1, top), all), "[a^]": set(pairs('^', '^', 'a', 'a'), nil), "[^a^]": set(pairs(0, '^'-1, '_', 'a'-1, 'b', top), all), `[\^]`: set(pairs('^', '^'), nil), `[\^a]`: set(pairs('^', '^', 'a', 'a'), nil),
		"[^^-a]": set(pairs(0, '^'-1, 'b', top), all), "[a^-z]": set(pairs('^', 'z'), nil), "[+-^]": set(pairs('+', '^'), nil), `[^\^]`: set(pairs(0, '^'-1, '^'+1, top), all), "[^\\p{L}\u00E9*\u0301]": set(rset.Not(letters), rset.Not(letters), "*\u0301"),
		"[^\u0301]": set(nil, nil, "^\u0301"), "[^\u0301a]": set(pairs('a', 'a'), nil, "^\u0301"), `[^\P{L}]`: set(letters, letters), `[^\u{0}-\u{10ffff}]`: set(nil, all), `[^\u{0}\u{10ffff}]`: set(pairs(1, top-1), all),
		// signs are letters there, but for some
		"[|()*+?{}$.]": set(pairs('$', '$', '(', '+', '.', '.', '?', '?', '{', '}'), nil), "[.]": set(pairs('.', '.'), nil), "[(]": set(pairs('(', '('), nil), "[$^]": set(pairs('$', '$', '^', '^'), nil), "[a|b]": set(pairs('a', 'b', '|', '|'), nil),
		"[{2}]": set(pairs('2', '2', '{', '{', '}', '}'), nil), "[(-*]": set(pairs('(', '*'), nil), "[*--]": refusedAt(3), `[*-\-]`: set(pairs('*', '-'), nil), "[,]": set(pairs(',', ','), nil), "[u{41}]": set(pairs('1', '1', '4', '4', 'u', 'u', '{', '{', '}', '}'), nil),
		`[\]]`: set(pairs(']', ']'), nil), `[\[\]\\\-]`: set(pairs('-', '-', '[', ']'), nil), `[\[-\]]`: set(pairs('[', ']'), nil), `[a\-z]`: set(pairs('-', '-', 'a', 'a', 'z', 'z'), nil), `[\--\.a]`: set(pairs('-', '.', 'a', 'a'), nil),
		`[\.-a]`: set(pairs('.', 'a'), nil), `[!-\-]`: set(pairs('!', '-'), nil), `[\\-a]`: set(pairs('\\', 'a'), nil),
		// code points by their digits
		`[\u{61}-\u{63}]`: set(pairs('a', 'c'), nil), `[a-\u{63}\u{65}]`: set(pairs('a', 'c', 'e', 'e'), nil), `[\u{61}-c]`: set(pairs('a', 'c'), nil), `[\u{e9}]`: set(nil, nil, "e\u0301"), `[\u{5d}]`: set(pairs(']', ']'), nil),
		`[\u{5e}]`: set(pairs('^', '^'), nil), `[\u{2d}-\u{2E}]`: set(pairs('-', '.'), nil), `[\u{0}-\u{10FFFF}]`: set(all, nil), `[A-\u{212A}]`: set(pairs('A', 'K'), nil), "[A-\u212A]": set(pairs('A', 'K'), nil), `[\u{212a}-\u{212A}]`: set(pairs('K', 'K'), nil),
		`[\u{340}-\u{343}]`: set(pairs(0x300, 0x313), nil), `[\u{300}-\u{341}]`: set(pairs(0x300, 0x301), nil), `[\u{d7ff}-\u{e000}]`: set(pairs(0xD7FF, 0xE000), nil), `[\u{10ffff}]`: set(pairs(top, top), nil),
		"[\uFFFD-\U0010FFFF]": set(pairs(0xFFFD, top), nil), "[\x00-\x01]": set(pairs(0, 1), nil),
	} {
		same(t, in, want)
		if want.e == api.OK {
			n := want.steps[0]
			same(t, "a|"+in+"*", are(text("a"), n, star, or))
			same(t, "("+in+in+")", are(n, n, cat))
		}
	}
}

// P7.1, classes that are none.
func TestClassesRefused(t *testing.T) {
	for in, place := range map[string]int{
		"[": 1, "[^": 2, "[]": 1, "[^]": 2, "[a": 2, "[^a": 3, "[a-": 3, "[a-c": 4, "[^^": 3, `[\`: 2, `[\]`: 3, `[\\`: 3, `[a\`: 3, `[a-\`: 4, `[A-\]`: 5, `[a-\]`: 3, `[\p{L}`: 6, `[a-z\p{L}`: 9, "[a(": 3, "[(|)": 4,
		// "[" and "]"
		"[[": 1, "[[]": 1, "[[]]": 1, "[a[": 2, "[a[]": 2, "[a-[": 3, "[a-[]": 3, "[a]]": 3, "[]]": 1, "[]a]": 1, "[^[": 2, "[^]]": 2, "[^]a]": 2, "[a-b[": 4, `[\p{L}[`: 6, "[[a]": 1, "[[:alpha:]]": 1,
		// "-"
		"[-": 1, "[-]": 1, "[-a]": 1, "[--a]": 1, "[^-": 2, "[^-]": 2, "[^-a]": 2, "[a-]": 3, "[a--]": 3, "[a--b]": 3, "[a-b-]": 4, "[a-b-c]": 4, "[a-b--c]": 4, "[ab-]": 4, "[^a-]": 4, "[^^-]": 4, "[*--]": 3, `[\--]`: 4,
		`[\-\--]`: 6, "[a-b-c-d]": 4, `[\u{61}-]`: 8, `[\u{61}-\u{62}-c]`: 14,
		// categories have no "-" behind them, and are no end of a range
		`[\p{L}-a]`: 6, `[\P{L}-a]`: 6, `[\p{L}-]`: 6, `[\p{L}-\p{N}]`: 6, `[a\p{L}-z]`: 7, `[a-c\p{L}-z]`: 9, `[^\p{L}-z]`: 7, `[a-\p{L}]`: 4, `[a-\P{L}]`: 4, `[\--\p{L}]`: 5, `[a-\p`: 4, `[a-\p{X}]`: 4, "[\u00E9-\\p{L}]": 4,
		// ranges that are none
		"[b-a]": 3, `[b-\u{61}]`: 3, `[\u{62}-a]`: 8, `[\u{62}-\u{61}]`: 8, `[\.-\-]`: 4, `[b-\-]`: 3, "[xb-a]": 4, "[a-bd-c]": 6, `[\p{L}b-a]`: 8, "[^b-a]": 4, "[b-ax": 3, "[b-a": 3, "[b-a-c]": 3, "[z-\u0041]": 3, "[\U0010FFFF-\x00]": 3,
		"[\u00E9-z]": 3, "[e\u0301-e\u0301]": 3, "[a-\u00E9]": 3, "[a-e\u0301]": 3, `[\u{e9}-z]`: 8, `[a-\u{e9}]`: 3, `[\u{e9}-\u{e9}]`: 8, "[\u00E9-\u00E8]": 3, "[a-z\u0301]": 3, "[a-\uAC00]": 3, "[\uAC00-\uAC01]": 3, "[\u1100\u1161-z]": 3,
		"[a-]\u0301]": 3, "[\u00E9-]": 3, "[\u00E9-": 3, "[\u00E9-[": 3, "[a-*\u0301]": 3, "[*\u0301-z]": 3, `[\u{344}-\u{344}]`: 9, `[\u{301}-\u{344}]`: 9, `[a-\u{41}-]`: 3, `[K-\u{212B}]`: 3, `[L-\u{212A}]`: 3, "[L-\u212A]": 3,
		// letters and categories that are none
		`[\a]`: 2, `[\q`: 2, `[a\e]`: 3, `[a-\e]`: 4, `[\^\a]`: 4, `[\p]`: 3, `[\pL]`: 3, `[\p{]`: 4, `[\p{}]`: 4, `[\p{X}]`: 4, `[\p{L]`: 5, `[\p{LL}]`: 5, `[\u]`: 3, `[\u{]`: 4, `[\u{}]`: 4, `[\u{g}]`: 4, `[\u{61]`: 6, `[\u{d800}]`: 4, `[a-\u{g}]`: 6,
		`[b-\u{61]`: 8, `[b-\u{110000}]`: 6, `[\u{1234567}]`: 4, `[\u{0000061}]`: 10, "[\\\u0301-a]": 3, "[\\p\u0301{L}]": 2, "[\\]\u0301]": 2, "[a]\u0301": 3, "[a\u0301": 2, "[a-b]\u0301": 5,
	} {
		same(t, in, refusedAt(place))
		same(t, "c?|(x"+in, refusedAt(place+5))
	}
}

// item is what may stand in a class, and what the chapter's words say of it.
type item struct {
	in    string
	means func(text string) bool
}

// letterItem is an item of one text.
func letterItem(in, text string) item {
	return item{in, func(s string) bool { return s == text }}
}

// rangeItem is an item of the texts of one code point that lies there.
func rangeItem(in string, lo, hi rune) item {
	return item{in, func(s string) bool {
		r, n := utf8.DecodeRuneInString(s)
		return n == len(s) && lo <= r && r <= hi
	}}
}

// categoryItem is an item of the texts that begin so, or of the others.
func categoryItem(in string, category int, same bool) item {
	return item{in, func(s string) bool {
		r, _ := utf8.DecodeRuneInString(s)
		return (ucd.Category(r) == category) == same
	}}
}

func items() []item {
	return []item{
		letterItem("a", "a"), letterItem("e", "e"), letterItem("\u00E9", "e\u0301"), letterItem("e\u0302", "e\u0302"), letterItem(`\u{ea}`, "e\u0302"), letterItem("*", "*"), letterItem("*\u0301", "*\u0301"),
		letterItem(`\-`, "-"), letterItem(`\]`, "]"), letterItem(`\u{5b}`, "["), letterItem(`\^`, "^"), letterItem("\uFFFD", "\uFFFD"), letterItem("\xFF", "\uFFFD"), letterItem("\uAC00", "\u1100\u1161"), letterItem(`\u{0}`, "\x00"),
		letterItem("\u212A", "K"), letterItem("a\u0301\u0323", "a\u0323\u0301"), letterItem(`\u{10ffff}`, "\U0010FFFF"), letterItem(`\u{301}`, "\u0301"), letterItem("\uFFFD\u0301", "\uFFFD\u0301"),
		rangeItem("a-f", 'a', 'f'), rangeItem("0-9", '0', '9'), rangeItem(`\u{0}-/`, 0, '/'), rangeItem(`\.-\u{5b}`, '.', '['), rangeItem("e-e", 'e', 'e'), rangeItem(`\u{80}-\u{10ffff}`, 0x80, 0x10FFFF), rangeItem(`\u{300}-\u{341}`, 0x300, 0x301),
		categoryItem(`\p{L}`, ucd.L, true), categoryItem(`\P{L}`, ucd.L, false), categoryItem(`\p{M}`, ucd.M, true), categoryItem(`\p{N}`, ucd.N, true), categoryItem(`\P{P}`, ucd.P, false), categoryItem(`\p{P}`, ucd.P, true),
		categoryItem(`\p{S}`, ucd.S, true), categoryItem(`\P{S}`, ucd.S, false), categoryItem(`\p{Z}`, ucd.Z, true), categoryItem(`\p{C}`, ucd.C, true), categoryItem(`\P{C}`, ucd.C, false),
	}
}

// shown are texts of segments to ask for.
func shown() []string {
	return strings.Split("a b c e f g z A K \u00D8 0 9 [ ] ^ * - . / \\ | \x00 \x7F \u00B2 \u0301 \u0302 \u00AD \uFFFD \U0010FFFF \u0300 \u0663 \u00A0 \u3000 \u1100 \u1161 "+
		"e\u0301 e\u0302 e\u0300 a\u0323\u0301 a\u0301 *\u0301 -\u0301 ]\u0301 \u0301\u0301 \u1100\u1161 \u1100\u1161\u11A8 \uFFFD\u0301 0\u0301 \x00\u0301 \U0010FFFF\u0301 \u20AC \u20AC\u0301 \u00A0\u0301 ex K\u0301", " ")
}

// meaning sees to it that a class means what its items do, for all that is shown.
func meaning(t *testing.T, list ...item) {
	t.Helper()
	in := ""
	for _, x := range list {
		in += x.in
	}
	for _, sign := range []string{"", "^"} {
		got := parse("[" + sign + in + "]")
		if got.e != api.OK || len(got.steps) != 1 || !segset.May(got.steps[0].Set) || segset.Has(got.steps[0].Set, "") {
			t.Fatalf("Parse(%+q): %s %d %v", "["+sign+in+"]", told(got.steps), got.place, got.e)
		}
		for _, text := range append(shown(), " ") {
			means := false
			for _, x := range list {
				means = means || x.means(text)
			}
			if segset.Has(got.steps[0].Set, text) != (means != (sign == "^")) {
				t.Fatalf("%+q in %+q: %v", text, "["+sign+in+"]", means == (sign == "^"))
			}
		}
	}
}

// P7.1, what classes mean: of every one, two and some three items.
func TestMeaning(t *testing.T) {
	l := items()
	for i, x := range l {
		meaning(t, x)
		for k, y := range l {
			meaning(t, x, y)
			meaning(t, x, y, l[(7*i+3*k+1)%len(l)])
		}
	}
	meaning(t, l...)
}

// P7.1, what stands for itself, for any, and for a category, outside of classes.
func TestMeaningOfAtoms(t *testing.T) {
	has := func(in, text string) bool { return segset.Has(parse(in).steps[0].Set, text) }
	for _, x := range items() {
		if strings.Contains(x.in, "-") && x.in != `\-` || x.in == "*" {
			continue
		}
		for _, text := range shown() {
			if has(x.in, text) != x.means(text) {
				t.Errorf("%+q in %+q: %v", text, x.in, !x.means(text))
			}
			if !has(".", text) || has(`[^\p{L}\P{L}]`, text) {
				t.Errorf("%+q in any", text)
			}
		}
	}
	if has(".", "") || has(`\P{L}`, "") || has(`\p{C}`, "") {
		t.Error("the empty text")
	}
}

// P7.1, classes of as many items as there may be: they are read soon enough.
func TestLongClasses(t *testing.T) {
	var letters, accents strings.Builder
	var single []api.Range
	var odd []string
	for i := range int32(api.MaxPattern - 2) {
		r := 0x4E00 + 2*i
		letters.WriteString(string(r))
		single = append(single, api.Range{Lo: r, Hi: r})
		accents.WriteString(string(r) + "\u0301")
		odd = append(odd, string(r)+"\u0301")
	}
	for range 5 {
		same(t, "["+letters.String()+"]", are(node(api.Set{Single: single})))
		same(t, "["+accents.String()+"]", are(node(api.Set{Odd: odd})))
		same(t, "[^"+accents.String()[len(odd[0]):]+"]", are(node(api.Set{Single: pairs(0, api.MaxRune), Multi: pairs(0, api.MaxRune), Odd: odd[1:]})))
		same(t, "["+strings.Repeat(`\P{S}`, 817)+"]", are(begun(rset.Not(ucd.Ranges(ucd.S)))))
	}
}
