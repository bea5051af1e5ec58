package stream

import (
	"unicode/utf8"

	"trema/api"
)

// window is the segments from the base, from which a match is looked for, up to known,
// how many have come. Where a place is decided without a segment, the base goes one above
// known.
type window struct {
	base, known int
	texts       []string
	ends        []int // where the bytes of each segment end
	start       int   // where those of the base's begin, unless the base is above known
}

// add lets segments come. One that the base is above already isn't held.
func (w *window) add(l []api.Segment) {
	for _, x := range l {
		w.known++
		if w.base == w.known {
			w.start = x.End
			continue
		}
		w.texts = append(w.texts, x.Text)
		w.ends = append(w.ends, x.End)
	}
}

// span is the span of the window's first n segments.
func (w *window) span(n int) api.Span {
	s := api.Span{From: w.base, To: w.base + n, Start: w.start, End: w.start}
	if n > 0 {
		s.End = w.ends[n-1]
	}
	return s
}

// move lets the base go up by n, and lets go of the segments ahead of it.
func (w *window) move(n int) {
	w.base += n
	if len(w.texts) == 0 {
		return
	}
	w.start = w.ends[n-1]
	clear(w.texts[:n])
	w.texts, w.ends = w.texts[n:], w.ends[n:]
}

// points is how many code points the segments have.
func (w *window) points() int {
	n := 0
	for _, text := range w.texts {
		n += utf8.RuneCountInString(text)
	}
	return n
}
