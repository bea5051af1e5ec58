package ucd

// classes are the numbers whose class isn't 0. They rise, so that a search may
// stop early.
var classes = [...]stretch{
	{0x0300, 0x0314, 230},
	{0x0315, 0x0315, 232},
	{0x0316, 0x0319, 220},
	{0x031A, 0x031A, 232},
	{0x031B, 0x031B, 216},
	{0x031C, 0x0320, 220},
	{0x0321, 0x0322, 202},
	{0x0323, 0x0326, 220},
	{0x0327, 0x0328, 202},
	{0x0329, 0x0333, 220},
	{0x0334, 0x0338, 1},
	{0x0339, 0x033C, 220},
	{0x033D, 0x0344, 230},
	{0x0345, 0x0345, 240},
	{0x0346, 0x0346, 230},
	{0x0347, 0x0349, 220},
	{0x034A, 0x034C, 230},
	{0x034D, 0x034E, 220},
	{0x0350, 0x0352, 230},
	{0x0353, 0x0356, 220},
	{0x0357, 0x0357, 230},
	{0x20D0, 0x20D1, 230},
	{0x3099, 0x309A, 8},
}

// The vowels and last consonants of syllables are starters that trail.
const (
	firstVowel = 0x1161
	lastVowel  = 0x1175
	firstFinal = 0x11A8
	lastFinal  = 0x11C2
)

// Class is the canonical combining class.
func Class(r int32) int {
	for _, s := range classes {
		if r < s.lo {
			break
		}
		if r <= s.hi {
			return int(s.is)
		}
	}
	return 0
}

// Trailing says whether a starter trails.
func Trailing(r int32) bool {
	return firstVowel <= r && r <= lastVowel || firstFinal <= r && r <= lastFinal
}
