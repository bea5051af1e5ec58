// Package utf reads code points out of bytes, as the bytes come, and lays code
// points as bytes again. See shared/doc/01-utf.md.
package utf

import (
	"math/bits"

	"trema/api"
)

// replacement stands for an ill-formed piece, and for a number that is no code
// point.
const replacement = 0xFFFD

// The surrogates lie in the midst of the numbers, but are no code points.
const (
	firstSurrogate = 0xD800
	lastSurrogate  = 0xDFFF
)

// The bounds of a further byte, where its first byte asks for nothing closer.
const (
	lowFurther  = 0x80
	highFurther = 0xBF
)

// Valid says whether a number is a code point.
func Valid(r int32) bool {
	return r >= 0 && r <= api.MaxRune && (r < firstSurrogate || r > lastSurrogate)
}

// Decode reads all code points.
func Decode(b []byte) []api.Point {
	d := New()
	l := d.Write(b)
	return append(l, d.Close()...)
}

// Encode writes code points.
func Encode(l []int32) []byte {
	var b []byte
	for _, r := range l {
		b = lay(b, r)
	}
	return b
}

// lay appends the sequence of one number.
func lay(b []byte, r int32) []byte {
	if !Valid(r) {
		r = replacement
	}
	switch {
	case r < 1<<7:
		return append(b, byte(r))
	case r < 1<<11:
		return append(b, 0xC0|byte(r>>6), further(r))
	case r < 1<<16:
		return append(b, 0xE0|byte(r>>12), further(r>>6), further(r))
	}
	return append(b, 0xF0|byte(r>>18), further(r>>12), further(r>>6), further(r))
}

// further is the further byte of a number's lowest six bits.
func further(r int32) byte {
	return lowFurther | byte(r)&0x3F
}

// read tells the code points of b that no further byte can change, with places
// counted from at, and how many bytes they have. What stands behind those bytes
// is the beginning of a sequence that may still become whole.
func read(b []byte, at int) (l []api.Point, done int) {
	for done < len(b) {
		rest := b[done:]
		have, need := measure(rest)
		if have < need && have == len(rest) {
			break
		}
		p := api.Point{Rune: replacement, At: at + done, Width: have}
		if have == need {
			p.Rune = join(rest[:have])
		}
		l = append(l, p)
		done += have
	}
	return l, done
}

// measure tells how many bytes at the front of b, which isn't empty, are one
// piece, and how many the sequence that they begin would need. need is 0, and
// have 1, where no sequence begins so.
func measure(b []byte) (have, need int) {
	need = length(b[0])
	low, high := second(b[0])
	have = 1
	for have < need && have < len(b) && low <= b[have] && b[have] <= high {
		low, high = lowFurther, highFurther
		have++
	}
	return have, need
}

// length is how many bytes a sequence with that first byte has: 0, if there is
// none.
func length(first byte) int {
	switch {
	case first < 0x80:
		return 1
	case first < 0xC2:
		return 0
	case first < 0xE0:
		return 2
	case first < 0xF0:
		return 3
	case first < 0xF5:
		return 4
	}
	return 0
}

// second is the bounds of the byte behind that first one: four first bytes have
// closer ones, against longer forms than needed, surrogates, and numbers above
// MaxRune.
func second(first byte) (low, high byte) {
	switch first {
	case 0xE0:
		return 0xA0, highFurther
	case 0xED:
		return lowFurther, 0x9F
	case 0xF0:
		return 0x90, highFurther
	case 0xF4:
		return lowFurther, 0x8F
	}
	return lowFurther, highFurther
}

// join puts the code point of a whole sequence together.
func join(b []byte) int32 {
	ones := bits.LeadingZeros8(^b[0])
	r := int32(b[0] << ones >> ones)
	for _, c := range b[1:] {
		r = r<<6 | int32(c&0x3F)
	}
	return r
}
