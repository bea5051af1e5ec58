package words

import (
	"strings"
	"testing"

	"trema/api"
	"trema/norm"
	"trema/ucd"
	"trema/utf"
)

// P13.1, the chapter's examples, and the edges of keys.
func TestKey(t *testing.T) {
	for _, c := range []struct{ in, want string }{
		{"", ""},
		{"STRASSE", "strasse"},
		{"Stra\u00DFe", "strasse"},
		{"STRA\u1E9EE", "strasse"},
		{"\u212B", "a\u030A"},
		{"abc", "abc"},
		{"A-Z 1.5!", "a-z 1.5!"},
		// all cases of one letter
		{"\u00C9t\u00E9", "e\u0301te\u0301"},
		{"\u03A3\u03C3\u03C2", "\u03C3\u03C3\u03C3"},
		{"\u0416\u0436", "\u0436\u0436"},
		{"\u0401\u0451", "\u0451\u0451"},
		{"\u0110\u0111\u013F\u0140\u0142", "\u0111\u0111\u0140\u0140\u0142"},
		{"\u00D7\u00D8\u00F7\u00F8", "\u00D7\u00F8\u00F7\u00F8"},
		// what decomposes is folded by what it is made of
		{"\u0130", "i\u0307"},
		{"\u0178\u00FF", "y\u0308y\u0308"},
		{"\u0386\u03AC\u1F71", "\u03B1\u0301\u03B1\u0301\u03B1\u0301"},
		{"\u2126\u03A9\u03C9", "\u03C9\u03C9\u03C9"},
		{"\u212AKk", "kkk"},
		{"\u1EA4", "a\u0302\u0301"},
		{"\u01D5", "u\u0308\u0304"},
		// to others, and to several
		{"\u00B5\u017F", "\u03BCs"},
		{"\u00DF\u1E9E\u0301", "ssss\u0301"},
		// to another class: a mark becomes a letter, and the order of marks is kept ahead of it
		{"\u0345", "\u03B9"},
		{"\u1FB3", "\u03B1\u03B9"},
		{"a\u0345\u0301", "a\u0301\u03B9"},
		{"a\u0345\u0301\u0345\u0323", "a\u0323\u0301\u03B9\u03B9"},
		{"\u1FB3\u0301\u0323", "\u03B1\u0323\u0301\u03B9"},
		// to what isn't in normal form, and must come in order with what stands behind it
		{"\u1E0A", "d\u0307"},
		{"\u1E0A\u0323", "d\u0323\u0307"},
		{"\u1E0C\u0307\u0323", "d\u0323\u0323\u0307"},
		{"\u1E0A\u0301\u0323\u0338", "d\u0338\u0323\u0307\u0301"},
		{"\u1E60\u0323", "s\u0323\u0307"},
		{"\u1E62\u0307", "s\u0323\u0307"},
		{"\u1E68", "s\u0323\u0307"},
		{"\u1E68\u0338", "s\u0338\u0323\u0307"},
		{"\u1E0A\u0345\u0323", "d\u0323\u0307\u03B9"},
		// above the ranges nothing folds
		{"\u1EA0\u1EB8", "\u1EA0\u1EB8"},
		{"\u1E94\u1E95\u1E96", "\u1E95\u1E95\u1E96"},
		// marks come in order, syllables come apart
		{"A\u0301\u0323", "a\u0323\u0301"},
		{"\u0301\u0323", "\u0323\u0301"},
		{"A\u0301\u0308", "a\u0301\u0308"},
		{"\uAC01", "\u1100\u1161\u11A8"},
		// ill-formed pieces are U+FFFD
		{"\xFF", "\uFFFD"},
		{"\xE2\x82A", "\uFFFDa"},
		{"A\xC3", "a\uFFFD"},
		{"\xC3\u0345\u0301", "\uFFFD\u0301\u03B9"},
		{"\xED\xA0\x80", "\uFFFD\uFFFD\uFFFD"},
		{"\xF0\x90\x80\u00C9", "\uFFFDe\u0301"},
		{"\U0010FFFF\x00", "\U0010FFFF\x00"},
	} {
		if got := Key([]byte(c.in)); got != c.want {
			t.Errorf("Key(%+q): %+q, but should be %+q", c.in, got, c.want)
		}
		if got := Key([]byte(c.want)); got != c.want {
			t.Errorf("Key(%+q): %+q", c.want, got)
		}
	}
	if Key(nil) != "" {
		t.Error(Key(nil))
	}
}

// P13.1 and P13.2, every code point, alone and with marks behind it, by its parts too.
func TestKeysOfAll(t *testing.T) {
	for r := int32(0); r <= api.MaxRune; r++ {
		if r > 0x3200 && r%31 != 0 && (r < 0xABF0 || r > 0xAD00) {
			continue
		}
		whole := string(utf.Encode([]int32{r}))
		parts := string(utf.Encode(ucd.Decompose(r)))
		for _, behind := range []string{"", "\u0345\u0301\u0323"} {
			want := keyOf(whole + behind)
			for _, in := range []string{whole + behind, parts + behind, want} {
				if got := Key([]byte(in)); got != want {
					t.Fatalf("Key(%+q): %+q, but should be %+q", in, got, want)
				}
			}
		}
	}
}

// folding are pieces of texts that fold in all ways, with marks that pass one another.
var folding = []string{
	"a", "A", "\u00C9", "\u00DF", "\u0130", "\u0345", "\u1E0A", "\u1E68", "\u1FB3", "\u212A", "\u03C2",
	"\u0301", "\u0323", "\u0344", "\uAC01", "\u1161", "\xFF", "\xC3", " ",
}

// P13.1 and P13.2, all short texts: keys of keys, and of equivalent texts.
func TestKeysOfShortTexts(t *testing.T) {
	eachOf(folding, 4, func(l []string) {
		text := strings.Join(l, "")
		want := keyOf(text)
		for _, in := range []string{text, want, norm.Text([]byte(text))} {
			if got := Key([]byte(in)); got != want {
				t.Fatalf("Key(%+q): %+q, but should be %+q", in, got, want)
			}
		}
	})
}

// P13.1, texts that have the same key, and texts that haven't.
func TestSame(t *testing.T) {
	for _, c := range []struct {
		a, b string
		want bool
	}{
		{"", "", true},
		{"\u00C9", "e\u0301", true},
		{"e", "\u00E9", false},
		{"STRASSE", "stra\u00DFe", true},
		{"STRASSE", "strase", false},
		{"\u1E9E", "Ss", true},
		{"\u212B", "\u00E5", true},
		{"\u2126", "\u03C9", true},
		{"\u0130", "i", false},
		{"\u0130", "I\u0307", true},
		{"\u03A3", "\u03C2", true},
		{"\u1FB3", "\u0391\u0399", true},
		{"a\u0345\u0301", "A\u0301\u03B9", true},
		{"a\u0345\u0301", "A\u03B9\u0301", false},
		{"\u1E0A\u0323", "\u1E0D\u0307", true},
		{"\u1E0A\u0323", "D\u0323\u0307", true},
		{"a\u0301\u0323", "A\u0323\u0301", true},
		{"a\u0301\u0308", "A\u0308\u0301", false},
		{"\uAC01", "\u1100\u1161\u11A8", true},
		{"\xFF", "\uFFFD", true},
		{"\xE2\x82", "\xFF\xFF", false},
		{"", "x", false},
		{"", " ", false},
		{"x", "xx", false},
		{"ab", "ba", false},
		{"a b", "ab", false},
		{"\u0301x", "x\u0301", false},
	} {
		if Same([]byte(c.a), []byte(c.b)) != c.want || Same([]byte(c.b), []byte(c.a)) != c.want {
			t.Errorf("Same(%+q, %+q): %v", c.a, c.b, !c.want)
		}
		if !Same([]byte(c.a), []byte(c.a)) || !Same([]byte(c.b), []byte(c.b)) {
			t.Errorf("%+q or %+q isn't the same as itself", c.a, c.b)
		}
	}
	if !Same(nil, []byte{}) || Same(nil, []byte("x")) || Same([]byte("x"), nil) {
		t.Error("Same, with nil")
	}
}

// P13.1 and P13.2, all pairs of short texts.
func TestPairsOfTexts(t *testing.T) {
	var texts, keys, normal []string
	eachOf([]string{"s", "S", "\u00DF", "\u1E68", "\u0345", "\u0307", "\u0323", "\xCC"}, 3, func(l []string) {
		text := strings.Join(l, "")
		texts = append(texts, text)
		keys = append(keys, keyOf(text))
		normal = append(normal, norm.Text([]byte(text)))
	})
	for i, a := range texts {
		for k, b := range texts {
			want := keys[i] == keys[k]
			if normal[i] == normal[k] && !want {
				t.Fatalf("%+q and %+q are equivalent, and their keys aren't the same", a, b)
			}
			if Same([]byte(a), []byte(b)) != want {
				t.Fatalf("Same(%+q, %+q): %v", a, b, !want)
			}
		}
	}
}
