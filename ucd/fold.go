package ucd

// shifts are the ranges in which each number, or each second one from lo on, is
// folded to one that lies as much behind it.
var shifts = [...]struct{ lo, hi, step, more int32 }{
	{0x0041, 0x005A, 1, 0x20},
	{0x00C0, 0x00DE, 1, 0x20},
	{0x0391, 0x03A9, 1, 0x20},
	{0x0410, 0x042F, 1, 0x20},
	{0x0400, 0x040F, 1, 0x50},
	{0x0100, 0x012E, 2, 1},
	{0x0132, 0x0136, 2, 1},
	{0x014A, 0x0176, 2, 1},
	{0x1E00, 0x1E94, 2, 1},
	{0x0139, 0x0147, 2, 1},
	{0x0179, 0x017D, 2, 1},
}

// Fold is what a code point is folded to.
func Fold(r int32) []int32 {
	switch r {
	case 0x00DF, 0x1E9E:
		return []int32{0x0073, 0x0073}
	case 0x0130:
		return []int32{0x0069, 0x0307}
	}
	return []int32{foldAlone(r)}
}

// foldAlone is what a number is folded to that isn't folded to two.
func foldAlone(r int32) int32 {
	switch r {
	case 0x00D7, 0x03A2: // in a range of shifts, but excepted
		return r
	case 0x00B5:
		return 0x03BC
	case 0x0178:
		return 0x00FF
	case 0x017F:
		return 0x0073
	case 0x0345:
		return 0x03B9
	case 0x0386:
		return 0x03AC
	case 0x03C2:
		return 0x03C3
	case 0x2126:
		return 0x03C9
	case 0x212A:
		return 0x006B
	case 0x212B:
		return 0x00E5
	}
	return shifted(r)
}

// shifted is what the ranges of shifts say of a number.
func shifted(r int32) int32 {
	for _, s := range shifts {
		if s.lo <= r && r <= s.hi && (r-s.lo)%s.step == 0 {
			return r + s.more
		}
	}
	return r
}
