package lazy

import (
	"math/bits"

	"trema/api"
)

// Instructions stand in a set's words by their numbers, so many in each.
const (
	inWord    = 1 << wordShift
	wordShift = 6
)

// set is a set of instructions, a bit for each.
type set [api.MaxWeight / inWord]uint64

func (s *set) add(at int) { s[at>>wordShift] |= 1 << (at % inWord) }

func (s *set) has(at int) bool { return s[at>>wordShift]>>(at%inWord)&1 == 1 }

// all goes through the instructions, rising.
func (s *set) all(yield func(at int) bool) {
	for i, word := range s {
		for ; word != 0; word &= word - 1 {
			if !yield(i<<wordShift | bits.TrailingZeros64(word)) {
				return
			}
		}
	}
}
