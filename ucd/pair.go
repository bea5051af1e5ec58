package ucd

// The Latin letters whose pairs stand in bases and names.
const (
	firstLatin = 0x00C0
	lastLatin  = 0x017F
)

// A byte of each for every Latin letter: what its pair begins with (a point: it
// doesn't decompose), and the name of the mark behind that.
const (
	bases = "AAAAAA.CEEEEIIII.NOOOOO..UUUUY..aaaaaa.ceeeeiiii.nooooo..uuuuy.y" +
		"AaAaAaCcCcCcCcDd..EeEeEeEeEeGgGgGgGgHh..IiIiIiIiI...JjKk.LlLlLl." +
		"...NnNnNn...OoOoOo..RrRrRrSsSsSsSsTtTt..UuUuUuUuUuUuWwYyYZzZzZz."
	names = "gactdr.egacdgacd.tgactd..gacda..gactdr.egacdgacd.tgactd..gacda.d" +
		"mmbbooaaccppvvvv..mmbbppoovvccbbppeecc..ttmmbboop...ccee.aaeevv." +
		"...aaeevv...mmbbqq..aaeevvaacceevveevv..ttmmbbrrqqooccccdaappvv."
)

// markNames has the names of the marks, each at its mark's place in marks.
const markNames = "gactmbpdrqveo"

var marks = [...]int32{
	0x0300, 0x0301, 0x0302, 0x0303, 0x0304, 0x0306, 0x0307, 0x0308, 0x030A, 0x030B, 0x030C, 0x0327, 0x0328,
}

// listed are the code points that decompose by no rule. They rise, so that a
// search may stop early; b is 0 where there is one other alone.
var listed = [...]struct{ r, a, b int32 }{
	{0x01D5, 0x00DC, 0x0304},
	{0x01D6, 0x00FC, 0x0304},
	{0x0340, 0x0300, 0},
	{0x0341, 0x0301, 0},
	{0x0343, 0x0313, 0},
	{0x0344, 0x0308, 0x0301},
	{0x0386, 0x0391, 0x0301},
	{0x0390, 0x03CA, 0x0301},
	{0x03AC, 0x03B1, 0x0301},
	{0x03AF, 0x03B9, 0x0301},
	{0x03CA, 0x03B9, 0x0308},
	{0x03CC, 0x03BF, 0x0301},
	{0x1E0B, 0x0064, 0x0307},
	{0x1E0D, 0x0064, 0x0323},
	{0x1E61, 0x0073, 0x0307},
	{0x1E63, 0x0073, 0x0323},
	{0x1E69, 0x1E63, 0x0307},
	{0x1EA1, 0x0061, 0x0323},
	{0x1EA4, 0x00C2, 0x0301},
	{0x1EA5, 0x00E2, 0x0301},
	{0x1EB7, 0x1EA1, 0x0306},
	{0x1EB9, 0x0065, 0x0323},
	{0x1EC7, 0x1EB9, 0x0302},
	{0x1F71, 0x03AC, 0},
	{0x1FB3, 0x03B1, 0x0345},
	{0x2126, 0x03A9, 0},
	{0x212A, 0x004B, 0},
	{0x212B, 0x00C5, 0},
	{0x2260, 0x003D, 0x0338},
	{0x304C, 0x304B, 0x3099},
	{0x30D1, 0x30CF, 0x309A},
}

// The syllables, and how many of them begin with one consonant, and with one
// consonant and one vowel. The first of the latter has no last consonant.
const (
	firstSyllable  = 0xAC00
	lastSyllable   = 0xD7A3
	firstConsonant = 0x1100
	perConsonant   = 588
	perVowel       = 28
	noFinal        = firstFinal - 1
)

// Pair is what a code point decomposes to: n numbers, of a and b.
func Pair(r int32) (a, b int32, n int) {
	switch {
	case firstLatin <= r && r <= lastLatin:
		return latin(int(r - firstLatin))
	case firstSyllable <= r && r <= lastSyllable:
		a, b = syllable(r - firstSyllable)
		return a, b, 2
	}
	for _, p := range listed {
		if r < p.r {
			break
		}
		if r == p.r && p.b == 0 {
			return p.a, 0, 1
		}
		if r == p.r {
			return p.a, p.b, 2
		}
	}
	return 0, 0, 0
}

// latin is the pair of the i-th Latin letter.
func latin(i int) (a, b int32, n int) {
	if bases[i] == '.' {
		return 0, 0, 0
	}
	return int32(bases[i]), mark(rune(names[i])), 2
}

// mark is the mark of that name.
func mark(name rune) int32 {
	for i, c := range markNames {
		if c == name {
			return marks[i]
		}
	}
	return 0
}

// syllable is the pair of the s-th syllable.
func syllable(s int32) (a, b int32) {
	final := s % perVowel
	if final == 0 {
		return firstConsonant + s/perConsonant, firstVowel + s%perConsonant/perVowel
	}
	return firstSyllable + s - final, noFinal + final
}

// Decompose is the full decomposition.
func Decompose(r int32) []int32 {
	return appendFull(nil, r)
}

// appendFull appends the full decomposition.
func appendFull(l []int32, r int32) []int32 {
	a, b, n := Pair(r)
	if n == 0 {
		return append(l, r)
	}
	l = appendFull(l, a)
	if n == 2 {
		l = appendFull(l, b)
	}
	return l
}

// Opens says whether a segment begins at a code point.
func Opens(r int32) bool {
	for a, _, n := Pair(r); n > 0; a, _, n = Pair(r) {
		r = a
	}
	return Class(r) == 0 && !Trailing(r)
}
