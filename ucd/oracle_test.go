package ucd

import (
	"math"
	"slices"
	"strconv"
	"strings"

	"trema/api"
)

// The chapter's lists, as they stand there. The tests read them anew, by ways of
// their own.
const (
	classList = "0300-0314: 230; 0315: 232; 0316-0319: 220; 031A: 232; 031B: 216; 031C-0320: 220; 0321-0322: 202; 0323-0326: 220; 0327-0328: 202; 0329-0333: 220; 0334-0338: 1; 0339-033C: 220; 033D-0344: 230; 0345: 240; 0346: 230; 0347-0349: 220; 034A-034C: 230; 034D-034E: 220; 0350-0352: 230; 0353-0356: 220; 0357: 230; 20D0-20D1: 230; 3099-309A: 8"

	trailingList = "1161-1175, 11A8-11C2"

	latinLetters = "AAAAAA.CEEEEIIII.NOOOOO..UUUUY..aaaaaa.ceeeeiiii.nooooo..uuuuy.y"
	latinMarks   = "gactdr.egacdgacd.tgactd..gacda..gactdr.egacdgacd.tgactd..gacda.d"
	otherLetters = "AaAaAaCcCcCcCcDd..EeEeEeEeEeGgGgGgGgHh..IiIiIiIiI...JjKk.LlLlLl....NnNnNn...OoOoOo..RrRrRrSsSsSsSsTtTt..UuUuUuUuUuUuWwYyYZzZzZz."
	otherMarks   = "mmbbooaaccppvvvv..mmbbppoovvccbbppeecc..ttmmbboop...ccee.aaeevv....aaeevv...mmbbqq..aaeevvaacceevveevv..ttmmbbrrqqooccccdaappvv."

	markList = "g 0300, a 0301, c 0302, t 0303, m 0304, b 0306, p 0307, d 0308, r 030A, q 030B, v 030C, e 0327, o 0328"

	pairList = "01D5: 00DC 0304; 01D6: 00FC 0304; 0340: 0300; 0341: 0301; 0343: 0313; 0344: 0308 0301; 0386: 0391 0301; 0390: 03CA 0301; 03AC: 03B1 0301; 03AF: 03B9 0301; 03CA: 03B9 0308; 03CC: 03BF 0301; 1E0B: 0064 0307; 1E0D: 0064 0323; 1E61: 0073 0307; 1E63: 0073 0323; 1E69: 1E63 0307; 1EA1: 0061 0323; 1EA4: 00C2 0301; 1EA5: 00E2 0301; 1EB7: 1EA1 0306; 1EB9: 0065 0323; 1EC7: 1EB9 0302; 1F71: 03AC; 1FB3: 03B1 0345; 2126: 03A9; 212A: 004B; 212B: 00C5; 2260: 003D 0338; 304C: 304B 3099; 30D1: 30CF 309A"

	categoryLists = `Z: 0020, 00A0, 2000-200A, 2028-2029, 3000
N: 0030-0039, 00B2-00B3, 00B9, 00BC-00BE, 0660-0669, FF10-FF19
M: 0300-036F, 0483-0489, 20D0-20DC, 3099-309A
P: 0021-0023, 0025-002A, 002C-002F, 003A-003B, 003F-0040, 005B-005D, 005F, 007B, 007D, 00A1, 00A7, 00AB, 00B6-00B7, 00BB, 00BF, 0387, 2010-2027, 2030-2043, 3001-3003
S: 0024, 002B, 003C-003E, 005E, 0060, 007C, 007E, 00A2-00A6, 00A8-00A9, 00AC, 00AE-00B1, 00B4, 00B8, 00D7, 00F7, 20A0-20C0, 2190-22FF, FFFD, 1F600-1F64F
L: 0041-005A, 0061-007A, 00AA, 00B5, 00BA, 00C0-00D6, 00D8-00F6, 00F8-02AF, 0386, 0388-0481, 048A-052F, 1100-11FF, 1E00-1FBC, 2126, 212A-212B, 3041-3096, 30A1-30FA, 4E00-9FFF, AC00-D7A3`

	foldMore20 = "0041-005A, 00C0-00D6, 00D8-00DE, 0391-03A1, 03A3-03A9, 0410-042F"
	foldMore50 = "0400-040F"
	foldEven   = "0100-012E, 0132-0136, 014A-0176, 1E00-1E94"
	foldOdd    = "0139-0147, 0179-017D"
	foldList   = "00B5: 03BC. 00DF: 0073 0073. 0130: 0069 0307. 0178: 00FF. 017F: 0073. 0345: 03B9. 0386: 03AC. 03C2: 03C3. 1E9E: 0073 0073. 2126: 03C9. 212A: 006B. 212B: 00E5"
)

// number reads a hexadecimal one.
func number(s string) int32 {
	n, err := strconv.ParseInt(s, 16, 32)
	if err != nil {
		panic(err)
	}
	return int32(n)
}

// numbers reads several, with spaces between.
func numbers(s string) []int32 {
	var l []int32
	for _, f := range strings.Fields(s) {
		l = append(l, number(f))
	}
	return l
}

// ranges reads a list of ranges and single numbers, with commas between.
func ranges(s string) []api.Range {
	var l []api.Range
	for _, part := range strings.Split(s, ", ") {
		lo, hi, two := strings.Cut(part, "-")
		if !two {
			hi = lo
		}
		l = append(l, api.Range{Lo: number(lo), Hi: number(hi)})
	}
	return l
}

// each hands every number of a list of ranges to f.
func each(s string, f func(int32)) {
	for _, x := range ranges(s) {
		for r := x.Lo; r <= x.Hi; r++ {
			f(r)
		}
	}
}

// classesSaid are the classes that aren't 0.
func classesSaid() map[int32]int {
	m := map[int32]int{}
	for _, part := range strings.Split(classList, "; ") {
		list, class, _ := strings.Cut(part, ": ")
		n, err := strconv.Atoi(class)
		if err != nil {
			panic(err)
		}
		each(list, func(r int32) { m[r] = n })
	}
	return m
}

// trailingSaid are the numbers that trail.
func trailingSaid() map[int32]bool {
	m := map[int32]bool{}
	each(trailingList, func(r int32) { m[r] = true })
	return m
}

// pairsSaid are the one or two numbers to which each number decomposes that does.
func pairsSaid() map[int32][]int32 {
	m := map[int32][]int32{}
	addLetters(m, 0xC0, latinLetters, latinMarks)
	addLetters(m, 0x100, otherLetters, otherMarks)
	for _, part := range strings.Split(pairList, "; ") {
		r, l, _ := strings.Cut(part, ": ")
		m[number(r)] = numbers(l)
	}
	r := int32(0xAC00)
	for consonant := range int32(19) {
		for vowel := range int32(21) {
			open := r
			m[r] = []int32{0x1100 + consonant, 0x1161 + vowel}
			r++
			for final := int32(0x11A8); final <= 0x11C2; final++ {
				m[r] = []int32{open, final}
				r++
			}
		}
	}
	return m
}

// addLetters adds the pairs of two texts, for the numbers from r on.
func addLetters(m map[int32][]int32, r int32, letters, marks string) {
	named := map[byte]int32{}
	for _, part := range strings.Split(markList, ", ") {
		named[part[0]] = number(part[2:])
	}
	for i := range letters {
		if letters[i] != '.' {
			m[r+int32(i)] = []int32{int32(letters[i]), named[marks[i]]}
		}
	}
}

// full is the full decomposition, by those pairs.
func full(pairs map[int32][]int32, r int32) []int32 {
	l, ok := pairs[r]
	if !ok {
		return []int32{r}
	}
	var whole []int32
	for _, part := range l {
		whole = append(whole, full(pairs, part)...)
	}
	return whole
}

// categoriesSaid are the categories that aren't C.
func categoriesSaid() map[int32]int {
	named := map[string]int{"L": 1, "M": 2, "N": 3, "P": 4, "S": 5, "Z": 6}
	m := map[int32]int{}
	for _, line := range strings.Split(categoryLists, "\n") {
		name, list, _ := strings.Cut(line, ": ")
		each(list, func(r int32) { m[r] = named[name] })
	}
	return m
}

// foldsSaid are the foldings that aren't the number itself.
func foldsSaid() map[int32][]int32 {
	m := map[int32][]int32{}
	each(foldMore20, func(r int32) { m[r] = []int32{r + 0x20} })
	each(foldMore50, func(r int32) { m[r] = []int32{r + 0x50} })
	each(foldEven, func(r int32) {
		if r%2 == 0 {
			m[r] = []int32{r + 1}
		}
	})
	each(foldOdd, func(r int32) {
		if r%2 == 1 {
			m[r] = []int32{r + 1}
		}
	})
	for _, part := range strings.Split(foldList, ". ") {
		r, l, _ := strings.Cut(part, ": ")
		m[number(r)] = numbers(l)
	}
	return m
}

// wrong are numbers that are no code points, and lie beside none: some from end to
// end, and some that an answer that cuts a number short would take for others.
func wrong() []int32 {
	l := []int32{math.MinInt32, math.MinInt32 + 1, math.MinInt32 + 0xC9, math.MaxInt32 - 1, math.MaxInt32}
	for r := int64(math.MinInt32); r <= math.MaxInt32; r += 65521 {
		if r < 0 || r > api.MaxRune {
			l = append(l, int32(r))
		}
	}
	for _, r := range []int32{0x41, 0xC9, 0xDF, 0x100, 0x130, 0x139, 0x301, 0x391, 0x1161, 0x212B, 0x3099, 0xAC01} {
		l = append(l, -r)
		for shift := 21; shift < 32; shift++ {
			l = append(l, r|int32(uint32(1)<<shift))
		}
	}
	return l
}

// all are the code points, the surrogates among them, a good many numbers on both
// sides, and the wrong ones.
func all() []int32 {
	var l []int32
	for r := int32(-0x3000); r <= api.MaxRune+0x3000; r++ {
		l = append(l, r)
	}
	return slices.Concat(l, wrong())
}
