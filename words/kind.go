package words

import (
	"unicode/utf8"

	"trema/api"
	"trema/norm"
	"trema/ucd"
)

// kind is what a segment may be in a word.
type kind uint8

const (
	other kind = iota
	letter
	digit
	stroke
	letterJoint
	digitJoint
)

// kindsOf are the kinds of segments.
func kindsOf(segs []api.Segment) []kind {
	l := make([]kind, len(segs))
	for i, s := range segs {
		l[i] = kindOf(s.Text)
	}
	return l
}

// kindOf is the kind of a segment with that text. A joint is one by all of its
// text, so that one with a mark is none.
func kindOf(text string) kind {
	switch text {
	case "":
		return other
	case "\u0027", "\u2019", "\u00B7":
		return letterJoint
	case "\u002E", "\u002C":
		return digitJoint
	}
	front := text[:min(len(text), utf8.UTFMax)] // has the first code point, however long the text is
	return kindOfPoint(norm.Runes(front)[0])
}

// kindOfPoint is the kind of a segment that is no joint, by its first code point.
func kindOfPoint(r int32) kind {
	if r == '_' {
		return stroke
	}
	switch ucd.Category(r) {
	case ucd.L:
		return letter
	case ucd.N:
		return digit
	}
	return other
}

// belongs says whether the segment at that place is of a word.
func belongs(kinds []kind, at int) bool {
	switch kinds[at] {
	case letter, digit, stroke:
		return true
	case letterJoint:
		return between(kinds, at, letter)
	case digitJoint:
		return between(kinds, at, digit)
	}
	return false
}

// between says whether the segments beside that place are there, both of a kind.
func between(kinds []kind, at int, k kind) bool {
	return 0 < at && at+1 < len(kinds) && kinds[at-1] == k && kinds[at+1] == k
}
