package posting

// A number is cut into groups of seven bits, the lowest first.
const (
	groupBits = 7
	more      = 1 << groupBits // is set in each group's byte but the last one
)

// tenth is the place of the last group that a number of 64 bits may have, with room
// for one bit.
const tenth = 64 / groupBits

// Number lays a number's bytes behind others.
func Number(b []byte, n uint64) []byte {
	return lay(append([]byte(nil), b...), n)
}

// lay does so in b's own spare room, so that a long list isn't copied with each number.
func lay(b []byte, n uint64) []byte {
	for n >= more {
		b = append(b, byte(n)|more)
		n >>= groupBits
	}
	return append(b, byte(n))
}

// Read reads the number at the front.
func Read(b []byte) (n uint64, width int) {
	for i, group := range b {
		if i > 0 && group == 0 || i == tenth && group > 1 { // a group more than need be, or bits without room
			return 0, 0
		}
		n |= uint64(group&^more) << (i * groupBits)
		if group < more {
			return n, i + 1
		}
	}
	return 0, 0
}
