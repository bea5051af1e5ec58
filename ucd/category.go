package ucd

import "trema/api"

// The categories.
const (
	L = 1 + iota
	M
	N
	P
	S
	Z
	C
)

// The numbers of all categories but C, in two tables to keep each of them short.
// They rise, one behind the other, so that a search may stop early.
var (
	lowRows = [...]stretch{
		{0x0020, 0x0020, Z},
		{0x0021, 0x0023, P},
		{0x0024, 0x0024, S},
		{0x0025, 0x002A, P},
		{0x002B, 0x002B, S},
		{0x002C, 0x002F, P},
		{0x0030, 0x0039, N},
		{0x003A, 0x003B, P},
		{0x003C, 0x003E, S},
		{0x003F, 0x0040, P},
		{0x0041, 0x005A, L},
		{0x005B, 0x005D, P},
		{0x005E, 0x005E, S},
		{0x005F, 0x005F, P},
		{0x0060, 0x0060, S},
		{0x0061, 0x007A, L},
		{0x007B, 0x007B, P},
		{0x007C, 0x007C, S},
		{0x007D, 0x007D, P},
		{0x007E, 0x007E, S},
		{0x00A0, 0x00A0, Z},
		{0x00A1, 0x00A1, P},
		{0x00A2, 0x00A6, S},
		{0x00A7, 0x00A7, P},
		{0x00A8, 0x00A9, S},
		{0x00AA, 0x00AA, L},
		{0x00AB, 0x00AB, P},
		{0x00AC, 0x00AC, S},
		{0x00AE, 0x00B1, S},
		{0x00B2, 0x00B3, N},
		{0x00B4, 0x00B4, S},
		{0x00B5, 0x00B5, L},
		{0x00B6, 0x00B7, P},
		{0x00B8, 0x00B8, S},
		{0x00B9, 0x00B9, N},
		{0x00BA, 0x00BA, L},
		{0x00BB, 0x00BB, P},
		{0x00BC, 0x00BE, N},
		{0x00BF, 0x00BF, P},
		{0x00C0, 0x00D6, L},
		{0x00D7, 0x00D7, S},
		{0x00D8, 0x00F6, L},
		{0x00F7, 0x00F7, S},
	}
	highRows = [...]stretch{
		{0x00F8, 0x02AF, L},
		{0x0300, 0x036F, M},
		{0x0386, 0x0386, L},
		{0x0387, 0x0387, P},
		{0x0388, 0x0481, L},
		{0x0483, 0x0489, M},
		{0x048A, 0x052F, L},
		{0x0660, 0x0669, N},
		{0x1100, 0x11FF, L},
		{0x1E00, 0x1FBC, L},
		{0x2000, 0x200A, Z},
		{0x2010, 0x2027, P},
		{0x2028, 0x2029, Z},
		{0x2030, 0x2043, P},
		{0x20A0, 0x20C0, S},
		{0x20D0, 0x20DC, M},
		{0x2126, 0x2126, L},
		{0x212A, 0x212B, L},
		{0x2190, 0x22FF, S},
		{0x3000, 0x3000, Z},
		{0x3001, 0x3003, P},
		{0x3041, 0x3096, L},
		{0x3099, 0x309A, M},
		{0x30A1, 0x30FA, L},
		{0x4E00, 0x9FFF, L},
		{0xAC00, 0xD7A3, L},
		{0xFF10, 0xFF19, N},
		{0xFFFD, 0xFFFD, S},
		{0x1F600, 0x1F64F, S},
	}
)

// stretches tells all rows of both tables.
func stretches(yield func(stretch) bool) {
	for _, s := range lowRows {
		if !yield(s) {
			return
		}
	}
	for _, s := range highRows {
		if !yield(s) {
			return
		}
	}
}

// Category is the category of a code point.
func Category(r int32) int {
	for s := range stretches {
		if r < s.lo {
			break
		}
		if r <= s.hi {
			return int(s.is)
		}
	}
	return C
}

// Ranges are the numbers of a category. The list is the least one, since between
// two rows of one category there are always numbers of another.
func Ranges(category int) []api.Range {
	var l []api.Range
	var next int32 // the first number that no row has told yet
	for s := range stretches {
		if category == C && next < s.lo {
			l = append(l, api.Range{Lo: next, Hi: s.lo - 1})
		}
		if category == int(s.is) {
			l = append(l, api.Range{Lo: s.lo, Hi: s.hi})
		}
		next = s.hi + 1
	}
	if category == C {
		l = append(l, api.Range{Lo: next, Hi: api.MaxRune})
	}
	return l
}

// Named is the category of a name.
func Named(name string) (int, bool) {
	switch name {
	case "L":
		return L, true
	case "M":
		return M, true
	case "N":
		return N, true
	case "P":
		return P, true
	case "S":
		return S, true
	case "Z":
		return Z, true
	case "C":
		return C, true
	}
	return 0, false
}
