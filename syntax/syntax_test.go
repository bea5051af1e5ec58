package syntax

import (
	"strconv"
	"strings"
	"testing"
	"unicode/utf8"

	"trema/api"
	"trema/rset"
	"trema/ucd"
)

// The steps without a set.
var (
	empty = api.Node{Kind: api.NodeEmpty}
	begin = api.Node{Kind: api.NodeBegin}
	end   = api.Node{Kind: api.NodeEnd}
	cat   = api.Node{Kind: api.NodeCat}
	or    = api.Node{Kind: api.NodeOr}
	star  = times(0, -1)
)

func times(least, most int) api.Node {
	return api.Node{Kind: api.NodeRepeat, Min: least, Max: most}
}

// node is the step of a set.
func node(s api.Set) api.Node { return api.Node{Kind: api.NodeSet, Set: s} }

// text is the step of one text, by the chapters' words.
func text(s string) api.Node {
	if utf8.RuneCountInString(s) > 1 {
		return node(api.Set{Odd: []string{s}})
	}
	r, _ := utf8.DecodeRuneInString(s)
	return node(api.Set{Single: pairs(r, r)})
}

// begun is the step of all texts that begin so.
func begun(l []api.Range) api.Node { return node(api.Set{Single: l, Multi: l}) }

// ones is the step of texts of one code point.
func ones(numbers ...int32) api.Node { return node(api.Set{Single: pairs(numbers...)}) }

// pairs is the list of the ranges from each first number to its second one.
func pairs(numbers ...int32) []api.Range {
	var l []api.Range
	for i := 0; i < len(numbers); i += 2 {
		l = append(l, api.Range{Lo: numbers[i], Hi: numbers[i+1]})
	}
	return l
}

// are is the answer of these steps.
func are(steps ...api.Node) answer { return answer{steps: steps} }

var every = begun(pairs(0, api.MaxRune))

const signList = `| ( ) [ ] * + ? { } ^ $ . \`

// P7.1, the chapter's examples.
func TestExamples(t *testing.T) {
	for in, want := range map[string]answer{
		"ab|c*":     are(text("a"), text("b"), cat, text("c"), star, or),
		"":          are(empty),
		"(|a){2,3}": are(empty, text("a"), or, times(2, 3)),
		"[^a-c]":    are(node(api.Set{Single: pairs(0, 'a'-1, 'd', api.MaxRune), Multi: pairs(0, api.MaxRune)})),
		`\p{L}+`:    are(begun(ucd.Ranges(ucd.L)), times(1, -1)),
		`\u{e9}`:    are(text("e\u0301")),
		"a**":       refusedAt(2), "(a": refusedAt(2), "a{3,2}": refusedAt(4), "[b-a]": refusedAt(3),
		`\p{X}`: refusedAt(3), `\u{d800}`: refusedAt(3), "^*": refusedAt(1), ")": refusedAt(0),
		"*\u0301": are(text("*\u0301")),
	} {
		same(t, in, want)
	}
	if s := Quote([]byte("a.b")); s != `a\.b` {
		t.Error(s)
	}
}

// P7.1, rows, choices, groups and times.
func TestSteps(t *testing.T) {
	a, b, c, d := text("a"), text("b"), text("c"), text("d")
	for in, want := range map[string]answer{
		"a": are(a), "ab": are(a, b, cat), "abc": are(a, b, cat, c, cat), "abcd": are(a, b, cat, c, cat, d, cat),
		"a|b": are(a, b, or), "a|b|c": are(a, b, or, c, or), "ab|cd|a": are(a, b, cat, c, d, cat, or, a, or),
		// empty rows and choices
		"|": are(empty, empty, or), "||": are(empty, empty, or, empty, or), "a|": are(a, empty, or), "|a": are(empty, a, or),
		"a||b": are(a, empty, or, b, or), "()": are(empty), "(|)": are(empty, empty, or), "()()": are(empty, empty, cat), "a()b": are(a, empty, cat, b, cat),
		"()*": are(empty, star), "(|)|": are(empty, empty, or, empty, or), "(())": are(empty), "a(|b|)c": are(a, empty, b, or, empty, or, cat, c, cat),
		// groups
		"(a)": are(a), "((a))": are(a), "(ab)c": are(a, b, cat, c, cat), "a(bc)": are(a, b, c, cat, cat), "(a|b)c": are(a, b, or, c, cat),
		"a(b|c)": are(a, b, c, or, cat), "(a|b)|c": are(a, b, or, c, or), "a|(b|c)": are(a, b, c, or, or), "((a)b|(c(d)))*": are(a, b, cat, c, d, cat, or, star),
		// times
		"a*": are(a, star), "a+": are(a, times(1, -1)), "a?": are(a, times(0, 1)), "a{0}": are(a, times(0, 0)), "a{1}": are(a, times(1, 1)), "a{7}": are(a, times(7, 7)),
		"a{64}": are(a, times(64, 64)), "a{0,}": are(a, star), "a{10,}": are(a, times(10, -1)), "a{64,}": are(a, times(64, -1)), "a{0,0}": are(a, times(0, 0)),
		"a{0,64}": are(a, times(0, 64)), "a{5,5}": are(a, times(5, 5)), "a{64,64}": are(a, times(64, 64)), "a{9,10}": are(a, times(9, 10)), "a{2,19}": are(a, times(2, 19)),
		"ab*": are(a, b, star, cat), "(ab)*": are(a, b, cat, star), "a*b": are(a, star, b, cat), "(a*)*": are(a, star, star), "((a{2}){3})?": are(a, times(2, 2), times(3, 3), times(0, 1)),
		"a*|b?": are(a, star, b, times(0, 1), or), "a*b+c?d{2}": are(a, star, b, times(1, -1), cat, c, times(0, 1), cat, d, times(2, 2), cat),
		".*": are(every, star), "[ab]*": are(ones('a', 'b'), star), `\.{2}`: are(text("."), times(2, 2)), `\u{61}+`: are(a, times(1, -1)), "\u00E9*": are(text("e\u0301"), star),
		// ends
		"^": are(begin), "$": are(end), "^$": are(begin, end, cat), "^a$": are(begin, a, cat, end, cat), "a^": are(a, begin, cat), "$a": are(end, a, cat), "^^": are(begin, begin, cat),
		"(^)*": are(begin, star), "(^|a)b": are(begin, a, or, b, cat), "a*^": are(a, star, begin, cat), "($){2}": are(end, times(2, 2)), "^|$": are(begin, end, or),
		// what is no sign stands for itself, also what is one elsewhere
		"-": are(text("-")), ",": are(text(",")), "a,2": are(a, text(","), cat, text("2"), cat), "01": are(text("0"), text("1"), cat), "u{2}": are(text("u"), times(2, 2)),
		"p{1,}": are(text("p"), times(1, -1)), "\u00E9": are(text("e\u0301")), "\u0301a": are(text("\u0301"), a, cat), "a\u0301\u0323": are(text("a\u0323\u0301")),
		"\U0010FFFF\x00": are(text("\U0010FFFF"), text("\x00"), cat), "\uAC01": are(text("\u1100\u1161\u11A8")), "\u212A": are(text("K")), " \n": are(text(" "), text("\n"), cat),
	} {
		same(t, in, want)
	}
}

// P7.1, each sign: alone, with a mark, behind "\", between others; and what looks
// like one.
func TestSigns(t *testing.T) {
	list := strings.Fields(signList)
	if len(list) != 14 {
		t.Fatal("the chapter names 14 signs")
	}
	for _, sign := range list {
		if !Sign(sign) {
			t.Errorf("Sign(%q)", sign)
		}
		same(t, "\\"+sign, are(text(sign)))
		same(t, "a\\"+sign+"*", are(text("a"), text(sign), star, cat))
		for _, mark := range []string{"\u0301", "\u0338", "\u1161", "\u0301\u0323", "\u0344", "\u0301\u0301\u0301"} {
			letter := sign + mark
			if mark == "\u0344" {
				letter = sign + "\u0308\u0301"
			}
			if mark == "\u0301\u0323" {
				letter = sign + "\u0323\u0301"
			}
			if Sign(sign + mark) {
				t.Errorf("Sign(%+q)", sign+mark)
			}
			same(t, sign+mark, are(text(letter)))
			same(t, "a|("+sign+mark+"?)", are(text("a"), text(letter), times(0, 1), or))
			same(t, "["+sign+mark+"]", are(text(letter)))
			same(t, "\\"+sign+mark, refusedAt(1))
			same(t, "a[\\"+sign+mark+"]", refusedAt(3))
		}
		same(t, "\\\\"+sign+"\u0301", are(text("\\"), text(sign+"\u0301"), cat))
		for _, no := range []string{sign + sign, "a" + sign, sign + "a", sign + " ", "\\" + sign + "\\", sign + "\xFF", sign + "\x00", string(rune(sign[0]) + 0xFEE0), "\u0301" + sign} {
			if Sign(no) {
				t.Errorf("Sign(%+q)", no)
			}
		}
	}
	for i := range 256 {
		b := string([]byte{byte(i)})
		if want := strings.Contains(signList, b) && b != " "; Sign(b) != want {
			t.Errorf("Sign(%q): %v", b, !want)
		}
		if i >= 0x80 && Sign(string(rune(i))) {
			t.Errorf("Sign(%q)", rune(i))
		}
	}
	for _, no := range []string{"", signList, "|(", "()", "\xFF", "*\u0301", "\uFF0A", "ab", strings.Repeat("*", 1000)} {
		if Sign(no) {
			t.Errorf("Sign(%+q)", no)
		}
	}
}

// P7.1, what stands behind "\": signs, "-", and nothing else of one segment.
func TestEscapes(t *testing.T) {
	for i := range 256 {
		letter := string(rune(i))
		switch {
		case letter == "u" || letter == "p" || letter == "P":
		case letter == "-" || strings.Contains(signList, letter) && letter != " ":
			same(t, "\\"+letter, are(text(letter)))
			same(t, "[\\"+letter+"]", are(text(letter)))
			same(t, "[\\"+letter+"-\\"+letter+"]", are(text(letter)))
		default:
			same(t, "\\"+letter, refusedAt(1))
			same(t, "a(\\"+letter, refusedAt(3))
			same(t, "[\\"+letter+"]", refusedAt(2))
			same(t, "[a-\\"+letter+"]", refusedAt(4))
		}
	}
	same(t, "\\\u0301", are(text("\\\u0301"))) // a mark behind it makes it a letter
	same(t, "\\\u0301.", are(text("\\\u0301"), every, cat))
	for _, in := range []string{`\`, `\é`, "\\e\u0301", "\\-\u0301", "\\u\u0301{61}", "\\p\u0301{L}", "\\\xFF", `\U{61}`, `\x`, `\n`, `\d`, `\0`, `\"`} {
		same(t, in, refusedAt(1))
		same(t, "a|"+in, refusedAt(3))
		same(t, "a{2}"+in+"b", refusedAt(5))
	}
}

// P7.1, code points by their digits.
func TestCodePoints(t *testing.T) {
	for digits, want := range map[string]string{
		"0": "\x00", "00": "\x00", "000000": "\x00", "7": "\a", "a": "\n", "A": "\n", "f": "\x0F", "F": "\x0F", "41": "A", "041": "A", "0041": "A", "00041": "A", "000041": "A",
		"4a": "J", "4A": "J", "28": "(", "5c": "\\", "5C": "\\", "2d": "-", "e9": "e\u0301", "E9": "e\u0301", "0000e9": "e\u0301", "1e69": "s\u0323\u0307", "1E69": "s\u0323\u0307",
		"1e6": "\u01E6", "301": "\u0301", "340": "\u0300", "344": "\u0308\u0301", "212a": "K", "212B": "A\u030A", "2126": "\u03A9", "ac01": "\u1100\u1161\u11A8", "Ac01": "\u1100\u1161\u11A8",
		"aC00": "\u1100\u1161", "1161": "\u1161", "11a8": "\u11A8", "fffd": "\uFFFD", "FFFE": "\uFFFE", "d7ff": "\uD7FF", "e000": "\uE000", "E000": "\uE000", "00d7ff": "\uD7FF", "10000": "\U00010000",
		"010000": "\U00010000", "10ffff": "\U0010FFFF", "10FFFF": "\U0010FFFF", "10FfFf": "\U0010FFFF", "0fffff": "\U000FFFFF", "1f600": "\U0001F600", "9": "\t", "bcd": "\u0BCD", "BCD": "\u0BCD",
	} {
		same(t, "\\u{"+digits+"}", are(text(want)))
		same(t, "a\\u{"+digits+"}*", are(text("a"), text(want), star, cat))
		same(t, "[\\u{"+digits+"}]", are(text(want)))
		place := 3 + len(digits)
		same(t, "\\u{"+digits, refusedAt(place))
		same(t, "\\u{"+digits+"|}", refusedAt(place))
		same(t, "\\u{"+digits+"}\u0301", refusedAt(place))
		same(t, "[\\u{"+digits+"]}", refusedAt(place+1))
	}
	for _, digits := range []string{
		"d800", "D800", "00d800", "d801", "dbff", "dc00", "dfff", "DFFF", "dFfE", "110000", "110001", "11ffff", "200000", "7fffff", "800000", "ffffff", "FFFFFF", "123456",
	} {
		same(t, "\\u{"+digits+"}", refusedAt(3))
		same(t, "ab\\u{"+digits+"}", refusedAt(5))
		same(t, "(\\u{"+digits+"}))", refusedAt(4))
		same(t, "[\\u{"+digits+"}]", refusedAt(4))
		same(t, "[a-\\u{"+digits+"}]", refusedAt(6))
		same(t, "[^\\u{"+digits+"}-a]", refusedAt(5))
	}
	for in, place := range map[string]int{
		// digits that are too many, none, or no digits
		`\u{0000041}`: 9, `\u{0010FFFF}`: 9, `\u{10ffff0}`: 9, `\u{00000000}`: 9, `\u{}`: 3, `\u{`: 3, `\u`: 2, `\u}`: 2, `\u41`: 2, `\u(41)`: 2, `\u{g}`: 3, `\u{4g}`: 4, `\u{4G}`: 4,
		`\u{x41}`: 3, `\u{+41}`: 3, `\u{-41}`: 3, `\u{ 41}`: 3, `\u{41 }`: 5, `\u{4 1}`: 4, `\u{0x41}`: 4, `\u{4_1}`: 4, `\u{{41}}`: 3, `\u{\4}`: 3, `\u{41`: 5, `\u{41)`: 5, `\u{41\}`: 5, `\u{41,42}`: 5,
		"\\u{4\u03011}": 3, "\\u{4e\u0301}": 4, "\\u{e\u0301}": 3, "\\u{\u0663}": 3, "\\u{\uFF11}": 3, "\\u{\x11}": 3, "\\u{\x10}": 3, "\\u{\x00}": 3, "\\u{@}": 3, "\\u{`}": 3, "\\u{:}": 3, "\\u{/}": 3, "\\u{\xFF}": 3,
		"\\u{}\u0301": 3, "\\u{\u0301}": 2, "\\u\u0301{41}": 1, `\u{41}}`: 6, `\u{41}{`: 7, `a\u{41}{x`: 8,
	} {
		same(t, in, refusedAt(place))
		same(t, "a|("+in, refusedAt(place+3))
	}
}

// P7.1, categories by name.
func TestCategories(t *testing.T) {
	for name, category := range map[string]int{"L": ucd.L, "M": ucd.M, "N": ucd.N, "P": ucd.P, "S": ucd.S, "Z": ucd.Z, "C": ucd.C} {
		l := ucd.Ranges(category)
		same(t, "\\p{"+name+"}", are(begun(l)))
		same(t, "\\P{"+name+"}", are(begun(rset.Not(l))))
		same(t, "[\\p{"+name+"}]", are(begun(l)))
		same(t, "[\\P{"+name+"}]", are(begun(rset.Not(l))))
		same(t, "[^\\p{"+name+"}]", are(begun(rset.Not(l))))
		same(t, "[^\\P{"+name+"}]", are(begun(l)))
		same(t, "[\\p{"+name+"}\\P{"+name+"}]", are(every))
		same(t, "[^\\p{"+name+"}\\P{"+name+"}]", are(node(api.Set{})))
		same(t, "(\\p{"+name+"}{2}\\P{"+name+"})", are(begun(l), times(2, 2), begun(rset.Not(l)), cat))
		same(t, "\\p{"+strings.ToLower(name)+"}", refusedAt(3))
		same(t, "\\p{"+name+"\u0301}", refusedAt(3))
	}
	for i := range 128 {
		name := string(rune(i))
		if !strings.Contains("LMNPSZC", name) {
			same(t, "\\p{"+name+"}", refusedAt(3))
			same(t, "a\\P{"+name+"}", refusedAt(4))
			same(t, "[\\p{"+name+"}]", refusedAt(4))
		}
	}
	for in, place := range map[string]int{
		`\p`: 2, `\P`: 2, `\pL`: 2, `\PL`: 2, `\p{`: 3, `\P{`: 3, `\p{}`: 3, `\p{L`: 4, `\P{L`: 4, `\p{L)`: 4, `\p{LL}`: 4, `\p{Lu}`: 4, `\p{XL}`: 3, `\p{^L}`: 3, `\p{\L}`: 3, `\p(L)`: 2, `\p{L}{`: 6,
		"\\p{L}\u0301": 4, "\\p{\u0301L}": 2, "\\p{\xFFL}": 3, "\\p{\u041B}": 3, "\\p{\uFF2C}": 3, `\p{Letter}`: 4, `\p}`: 2, `\p{X`: 3, `\p\p{L}`: 2, `\p{L}}`: 5, `\p{L}**`: 6,
	} {
		same(t, in, refusedAt(place))
		same(t, "a*|("+in, refusedAt(place+4))
	}
}

// P7.1, times that are none.
func TestTimesRefused(t *testing.T) {
	for in, place := range map[string]int{
		// nothing to repeat
		"*": 0, "+": 0, "?": 0, "{2}": 0, "{": 0, "}": 0, "a|*": 2, "(*)": 1, "(+": 1, "^*": 1, "^+": 1, "^?": 1, "^{2}": 1, "$*": 1, "a$+": 2, "a|?": 2, "a(|{2})": 3, "a}": 1, "a*}": 2,
		// twice
		"a**": 2, "a*+": 2, "a*?": 2, "a+?": 2, "a?*": 2, "a??": 2, "a*{2}": 2, "a{2}*": 4, "a{2}{3}": 4, "a{2,}?": 5, "a{2,3}{2}": 6, "(a*)**": 5,
		// numbers
		"a{65}": 2, "a{66}": 2, "a{70}": 2, "a{100}": 2, "a{640}": 2, "a{99999999999999999999999999}": 2, "a{18446744073709551617}": 2, "a{4294967298}": 2, "a{65,}": 2, "a{65,70}": 2, "a{0,65}": 4,
		"a{0,18446744073709551616}": 4, "a{64,65}": 5, "a{1,100}": 4, "a{01}": 2, "a{00}": 2, "a{00,}": 2, "a{001,2}": 2, "a{01,65}": 2, "a{0,00}": 4, "a{0,01}": 4, "a{1,02}": 4, "a{064}": 2, "a{1,}}": 5,
		"a{3,2}": 4, "a{1,0}": 4, "a{64,63}": 5, "a{10,9}": 5, "a{10,09}": 5, "ab{12,2}": 6, "(a){3,2}": 6,
		// a bad number counts ahead of what is missing behind it
		"a{65": 2, "a{65x": 2, "a{01": 2, "a{01,": 2, "a{0,65": 4, "a{0,01x": 4, "a{3,2": 4, "a{3,2x}": 4, "a{650000": 2, "a{3,20x": 6, "a{3,2)": 4,
		// what is missing, and what else stands there
		"a{": 2, "a{2": 3, "a{2,": 4, "a{2,3": 5, "a{}": 2, "a{,}": 2, "a{,2}": 2, "a{x}": 2, "a{2x}": 3, "a{2,x}": 4, "a{2,3x}": 5, "a{2,3,}": 5, "a{2,3,4}": 5, "a{2,,3}": 4, "a{ 2}": 2, "a{2 }": 3,
		"a{2, 3}": 4, "a{2;3}": 3, "a{-1}": 2, "a{+1}": 2, "a{1,-1}": 4, "a{2)": 3, "a{2]": 3, "a{2|": 3, "a{2\\}": 3, "a{(2)}": 2, "a{a}": 2, "a{f}": 2, "a{1f}": 3, "a{A}": 2, "a{0x1}": 3, "a{1e1}": 3, "a{1.5}": 3,
		"a{2\u0301}": 2, "a{22\u0301}": 3, "a{2,\u0301}": 3, "a{2}\u0301": 3, "a{\u0301}": 2, "a{2,3}\u0301": 5, "a{\u0662}": 2, "a{\uFF12}": 2, "a{\u00B2}": 2, "a{\x12}": 2, "a{2\xFF}": 3, "a{:}": 2, "a{/}": 2,
	} {
		same(t, in, refusedAt(place))
		same(t, "bc|"+in, refusedAt(place+3))
	}
	for n := range 200 {
		number := strconv.Itoa(n)
		if n <= api.MaxRepeat {
			same(t, "a{"+number+"}", are(text("a"), times(n, n)))
			same(t, "a{"+number+",}", are(text("a"), times(n, -1)))
			same(t, "a{0"+number+"}", refusedAt(2))
		} else {
			same(t, "a{"+number+"}", refusedAt(2))
			same(t, "a{"+number+",}", refusedAt(2))
		}
		for k := range 70 {
			in := "a{" + number + "," + strconv.Itoa(k) + "}"
			switch {
			case n > api.MaxRepeat:
				same(t, in, refusedAt(2))
			case k > api.MaxRepeat || k < n:
				same(t, in, refusedAt(3+len(number)))
			default:
				same(t, in, are(text("a"), times(n, k)))
			}
		}
	}
}

// P7.1, groups that aren't closed, or not open, and signs where none can stand.
func TestGroupsRefused(t *testing.T) {
	for in, place := range map[string]int{
		"(": 1, "((": 2, "(a": 2, "(a|": 3, "(a|b": 4, "((a)": 4, "(a)(": 4, "(a*": 3, "(^": 2, "(a{2}": 5, "()(": 3, "(()": 3, "(|": 2,
		")": 0, "a)": 1, "(a))": 3, "())": 2, "a|)": 2, "a|b)c": 3, "*)": 0, ")(": 0, "^)": 1, "a*)": 2, "(a)b)": 4, "a{2})": 4, `\))`: 2,
		"]": 0, "a]": 1, "[a]]": 3, "(]": 1, "(a])": 2, "a|]": 2, "}": 0, "a}": 1, "a{2}}": 4, "(}": 1, "[a]}": 3, "(a}": 2, `\]]`: 2, "a^]": 2,
	} {
		same(t, in, refusedAt(place))
		same(t, "^a?|"+in, refusedAt(place+4))
	}
}

// P7.1, as many groups within groups as there may be, and one more.
func TestDepth(t *testing.T) {
	nested := func(n int, what string) string { return strings.Repeat("(", n) + what + strings.Repeat(")", n) }
	most := api.MaxDepth
	same(t, nested(most, "a"), are(text("a")))
	same(t, nested(most, ""), are(empty))
	same(t, nested(most-1, "(a)(b)"), are(text("a"), text("b"), cat))
	same(t, nested(most, "a")+nested(most, "b"), are(text("a"), text("b"), cat))
	same(t, nested(most, `\([(](`+"\u0301"), are(text("("), text("("), cat, text("(\u0301"), cat))
	deep := func(place int) answer { return answer{place: place, e: api.ErrDeep} }
	same(t, nested(most+1, "a"), deep(most))
	same(t, nested(most, "("), deep(most))
	same(t, nested(most, "a("), deep(most+1))
	same(t, nested(most, "a|b*("), deep(most+4))
	same(t, nested(most-1, "(a)()((a))"), deep(most-1+6))
	same(t, nested(most, "a")+nested(most+1, "b"), deep(2*most+1+most))
	same(t, strings.Repeat("(", api.MaxPattern), deep(most))
	same(t, "a"+strings.Repeat("a(", 40), deep(2*most+2))
	same(t, "^|"+strings.Repeat("((", 40)+"*", deep(most+2))
	// what comes first
	same(t, "*"+strings.Repeat("(", 40), refusedAt(0))
	same(t, strings.Repeat("(", most)+"*(", refusedAt(most))
	same(t, strings.Repeat("(", most)+"(*", deep(most))
	same(t, strings.Repeat("(", most)+"[(", refusedAt(most+2))
	same(t, strings.Repeat("(", most)+"a", refusedAt(most+1))
	same(t, strings.Repeat("(", most), refusedAt(most))
	same(t, nested(most, "a")+")", refusedAt(2*most+1))
	same(t, nested(most, "a")+")((", refusedAt(2*most+1))
}

// P7.1, as many segments as there may be, and one more.
func TestLong(t *testing.T) {
	most := api.MaxPattern
	row := func(letter string, n int) answer {
		l := []api.Node{text(letter)}
		for range n - 1 {
			l = append(l, text(letter), cat)
		}
		return are(l...)
	}
	long := answer{e: api.ErrLong}
	same(t, strings.Repeat("a", most), row("a", most))
	same(t, strings.Repeat("\u00E9", most), row("e\u0301", most))
	same(t, strings.Repeat("e\u0301", most), row("e\u0301", most))
	same(t, strings.Repeat("\xFF", most), row("\uFFFD", most))
	same(t, strings.Repeat("a", most-1)+")", refusedAt(most-1))
	same(t, strings.Repeat("a", most-1)+"(", refusedAt(most))
	same(t, strings.Repeat(`\*`, most/2), row("*", most/2))
	same(t, "["+strings.Repeat("a", most-2)+"]", are(text("a")))
	for _, in := range []string{"a", "\u00E9", "e\u0301", "*", "(", ")", "\\", "[", "\xFF", "\xE2\x82", "|", "\u0378", "a" + marks(api.MaxSegment-1)} {
		same(t, strings.Repeat(in, most+1), long)
		same(t, strings.Repeat(in, most+2), long)
		same(t, strings.Repeat(in, 3*most), long)
	}
	same(t, strings.Repeat("a", most)+")", long)
	same(t, "*"+strings.Repeat("a", most), long)
	same(t, strings.Repeat("(", most)+"*", long)
	same(t, strings.Repeat(`\*`, most/2)+"a", long)
	same(t, strings.Repeat("a", 1<<20), long)
}

// marks is so many marks.
func marks(n int) string { return strings.Repeat("\u0301", n) }

// P7.1, a segment over the limit, ahead of, at and behind every other fault.
func TestSegmentOverLimit(t *testing.T) {
	fits, over := "a"+marks(api.MaxSegment-1), "a"+marks(api.MaxSegment)
	bad := func(place int) answer { return answer{place: place, e: api.ErrSegment} }
	same(t, fits, are(text(fits)))
	same(t, "["+fits+"]*", are(text(fits), star))
	same(t, marks(api.MaxSegment), are(text(marks(api.MaxSegment))))
	same(t, "*"+marks(api.MaxSegment-1), are(text("*"+marks(api.MaxSegment-1))))
	same(t, over, bad(0))
	same(t, marks(api.MaxSegment+1), bad(0))
	same(t, "*"+marks(api.MaxSegment), bad(0))
	same(t, "a"+over, bad(1))
	same(t, "\u00E9"+fits+over+"b"+over, bad(2))
	same(t, "\u00E9"+marks(api.MaxSegment-1), bad(0)) // the normal form counts
	for _, fault := range []string{"*", ")", "(", "[", "]", "\\", "a**", "a{65}", "a{", "[b-a]", `\p{X}`, `\u{d800}`, `\q`, "^*", strings.Repeat("(", 40), strings.Repeat("a", api.MaxPattern+1), "\xFF)"} {
		n := len(fault) // each byte is a segment
		same(t, over+fault, bad(0))
		same(t, fault+over, bad(n))
		same(t, "a"+fault+over+fault, bad(n+1))
		same(t, fault+fits+fault+over+fault, bad(2*n+1))
		same(t, fault+marks(api.MaxSegment), bad(n-1))
		same(t, "a"+fault[:1]+marks(api.MaxSegment)+fault[1:], bad(1))
	}
	same(t, strings.Repeat("a", api.MaxPattern)+over, bad(api.MaxPattern))
	same(t, strings.Repeat("a", 3*api.MaxPattern)+over, bad(3*api.MaxPattern))
	same(t, over+strings.Repeat("a", 3*api.MaxPattern), bad(0))
}

// P7.1, bytes that are ill-formed are read as layer 1 reads them.
func TestIllFormed(t *testing.T) {
	x := text("\uFFFD")
	for in, want := range map[string]answer{
		"\xFF": are(x), "\x80": are(x), "\xE2\x82": are(x), "\xF0\x90\x80": are(x), "\xC0\x80": are(x, x, cat), "\xED\xA0\x80": are(x, x, cat, x, cat), "a\xFF*": are(text("a"), x, star, cat),
		"\xE2\x82*": are(x, star), "\xFF\u0301": are(text("\uFFFD\u0301")), "(\xFF|\xC3)": are(x, x, or), "[\xFF]": are(x), "[\xFF-\xFE]": are(x), "[a-\xFF]": are(ones('a', 0xFFFD)),
		"[^\xFF]": are(node(api.Set{Single: pairs(0, 0xFFFC, 0xFFFE, api.MaxRune), Multi: pairs(0, api.MaxRune)})), "[\xC0\x80]": are(x),
		"\\\xFF": refusedAt(1), "a{\xFF}": refusedAt(2), "\xFF)": refusedAt(1), "\xC0\x80)": refusedAt(2), "\xF0\x90\x80)": refusedAt(1), "\\u{\xC3}": refusedAt(3), "[\xFF": refusedAt(2), "(\xFF": refusedAt(2),
		"\xC3(": refusedAt(2), "[\uFFFE-\xFF]": refusedAt(3), "\\p\xFF": refusedAt(2),
	} {
		same(t, in, want)
	}
}

// P7.1 and P7.3, Quote.
func TestQuote(t *testing.T) {
	for in, want := range map[string]string{
		"": "", "a": "a", "a.b": `a\.b`, "ab": "ab", "*": `\*`, "-": "-", "^-$": `\^-\$`, "\\": `\\`, `\\`: `\\\\`, "a\u0301": "a\u0301", "\u00E9": "e\u0301", "\u00E9*": `e` + "\u0301" + `\*`,
		"*\u0301": "*\u0301", "\\\u0301": "\\\u0301", "*\u0301*": "*\u0301\\*", "\u0301*": "\u0301\\*", "\xFF": "\uFFFD", "\xE2\x82.": "\uFFFD\\.", "a\u0301\u0323": "a\u0323\u0301", "\u212A": "K",
		"\uAC01": "\u1100\u1161\u11A8", "(a|b)": `\(a\|b\)`, "[a-z]{2,}": `\[a-z\]\{2,\}`, `\u{41}`: `\\u\{41\}`, "\n\x00": "\n\x00", "\U0010FFFF": "\U0010FFFF",
		strings.ReplaceAll(signList, " ", ""): `\|\(\)\[\]\*\+\?\{\}\^\$\.\\`,
	} {
		if got := Quote([]byte(in)); got != want {
			t.Errorf("Quote(%+q): %+q, but should be %+q", in, got, want)
		}
	}
	if got := Quote(nil); got != "" {
		t.Errorf("Quote(nil): %q", got)
	}
	// with no limit, of segments nor of their length
	long := "a" + marks(3*api.MaxSegment) + strings.Repeat("*b", 2*api.MaxPattern)
	if got := Quote([]byte(long)); got != strings.ReplaceAll(long, "*", "\\*") {
		t.Errorf("Quote of a long text")
	}
	same(t, Quote([]byte(long)), answer{place: 0, e: api.ErrSegment})
	same(t, Quote([]byte(strings.Repeat("*", api.MaxPattern))), answer{e: api.ErrLong})
}
