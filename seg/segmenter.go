package seg

import (
	"trema/api"
	"trema/norm"
	"trema/ucd"
	"trema/utf"
)

// Segmenter cuts a text as its bytes come.
type Segmenter struct {
	limit   int
	decoder *utf.Decoder
	open    []int32   // the full decompositions of the open segment's code points, as they came
	at, end int       // where the open segment's bytes begin, and where they end so far
	ended   api.Errno // what Write and Close answer from now on, if it isn't OK
}

// New is a segmenter that has been handed nothing.
func New(limit int) (*Segmenter, api.Errno) {
	if limit < 1 || limit > api.MaxSegment {
		return nil, api.ErrArg
	}
	return begin(limit), api.OK
}

// begin is a new segmenter with any limit.
func begin(limit int) *Segmenter {
	return &Segmenter{limit: limit, decoder: utf.New()}
}

// Write reads on.
func (s *Segmenter) Write(b []byte) ([]api.Segment, api.Errno) {
	if s == nil {
		return nil, api.ErrArg
	}
	if s.ended != api.OK {
		return nil, s.ended
	}
	return s.take(s.decoder.Write(b))
}

// Close tells the rest.
func (s *Segmenter) Close() ([]api.Segment, api.Errno) {
	if s == nil {
		return nil, api.ErrArg
	}
	if s.ended != api.OK {
		return nil, s.ended
	}
	l, e := s.take(s.decoder.Close())
	if e != api.OK {
		return l, e
	}
	l = s.tell(l)
	s.stop(api.ErrClosed)
	return l, api.OK
}

// Pending is the length of the segment that is open.
func (s *Segmenter) Pending() int {
	if s == nil {
		return 0
	}
	return len(s.open)
}

// Err is ErrSegment if that was answered: that a segmenter is closed is no error
// of the text.
func (s *Segmenter) Err() api.Errno {
	if s == nil {
		return api.ErrArg
	}
	if s.ended == api.ErrSegment {
		return api.ErrSegment
	}
	return api.OK
}

// whole tells all segments of a text that is handed in at once.
func (s *Segmenter) whole(b []byte) ([]api.Segment, api.Errno) {
	l, _ := s.Write(b)
	last, e := s.Close() // answers Write's error again, if there was one
	return append(l, last...), e
}

// take goes on by code points that are sure, and tells the segments that are
// whole by them.
func (s *Segmenter) take(points []api.Point) ([]api.Segment, api.Errno) {
	var l []api.Segment
	for _, p := range points {
		if ucd.Opens(p.Rune) {
			l = s.tell(l)
		}
		s.open = append(s.open, ucd.Decompose(p.Rune)...)
		s.end = p.At + p.Width
		if len(s.open) > s.limit {
			s.stop(api.ErrSegment)
			return l, api.ErrSegment
		}
	}
	return l, api.OK
}

// tell appends the open segment, if there is one: it is whole. The next one
// begins where it ends.
func (s *Segmenter) tell(l []api.Segment) []api.Segment {
	if len(s.open) == 0 {
		return l
	}
	text := string(utf.Encode(norm.Normal(s.open)))
	l = append(l, api.Segment{Text: text, At: s.at, End: s.end})
	s.open, s.at = s.open[:0], s.end
	return l
}

// stop lets go of what nothing is told of any more.
func (s *Segmenter) stop(e api.Errno) {
	s.open, s.decoder, s.ended = nil, nil, e
}
