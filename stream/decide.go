package stream

import "trema/api"

// minRoom is the least room of an engine that has states.
const minRoom = 2

// may says whether a configuration may be.
func may(c Config) bool {
	return within(c.Segment, 1, api.MaxSegment) && within(c.Window, 1, api.MaxWindow) &&
		(c.Room == 0 || within(c.Room, minRoom, api.MaxCache))
}

func within(n, least, most int) bool { return least <= n && n <= most }

// over is the error that Write and Close answer at once, if there is one.
func (s *Stream) over() api.Errno {
	if s == nil {
		return api.ErrArg
	}
	return s.ended
}

// take lets segments come, and behind them the segmenter's error, if it answered one. As
// many come at once as may be undecided: whatever stands behind a run that isn't open, the
// same is answered of it, so that to decide behind each single segment would tell nothing
// else, but would go over a long window anew each time.
func (s *Stream) take(l []api.Segment, e api.Errno) api.Errno {
	for len(l) > 0 {
		n := min(len(l), s.most-s.Held())
		s.window.add(l[:n])
		l = l[n:]
		s.decide(false)
		if s.Held() >= s.most {
			s.stop(api.ErrWindow)
			return api.ErrWindow
		}
	}
	if e != api.OK {
		s.stop(e)
	}
	return e
}

// decide moves the base as far as it is sure what begins there.
func (s *Stream) decide(final bool) {
	for w := &s.window; w.base <= w.known; {
		end, found, open, _ := s.engine.Longest(w.texts, 0, w.base == 0, final)
		if open {
			return
		}
		if found {
			s.decided = append(s.decided, w.span(end))
		}
		w.move(max(end, 1))
	}
}

// tell hands out the spans that were not told yet.
func (s *Stream) tell() []api.Span {
	l := s.decided
	s.decided = nil
	return l
}

// stop lets go of what nothing is told of any more. The engine stays, for its states.
func (s *Stream) stop(e api.Errno) {
	s.segmenter, s.window, s.ended = nil, window{}, e
}
