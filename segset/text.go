package segset

import (
	"slices"

	"trema/api"
	"trema/utf"
)

// longest is how many bytes a code point has at most.
const longest = 4

// replacement is what layer 1 reads an ill-formed piece as; it is a code point
// too, with a sequence of its own.
const (
	replacement         = 0xFFFD
	replacementSequence = "\uFFFD"
)

// first is the first code point of a text that isn't empty, and whether there are
// more. No text is read further than it needs.
func first(text string) (r int32, more bool) {
	p := utf.Decode([]byte(text[:min(longest, len(text))]))[0]
	return p.Rune, p.Width < len(text)
}

// points is the code points of a well-formed text; of an ill-formed one nothing.
func points(text string) []api.Point {
	l := utf.Decode([]byte(text))
	if slices.ContainsFunc(l, func(p api.Point) bool { return illFormed(text, p) }) {
		return nil
	}
	return l
}

// illFormed says whether a code point of a text stands for a piece that is no
// sequence.
func illFormed(text string, p api.Point) bool {
	return p.Rune == replacement && text[p.At:p.At+p.Width] != replacementSequence
}

// rising is the texts of all lists, each once, in order.
func rising(lists ...[]string) []string {
	l := slices.Concat(lists...)
	slices.Sort(l)
	return slices.Compact(l)
}

// longer is the well-formed texts of two code points at least, each once, in order.
func longer(l []string) []string {
	return slices.DeleteFunc(rising(l), func(text string) bool { return len(points(text)) < 2 })
}
