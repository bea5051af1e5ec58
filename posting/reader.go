package posting

import "trema/api"

// A reader takes numbers off the front of bytes. Each of its calls says whether what
// it is asked for stands there.
type reader struct {
	rest []byte
}

// number takes any number.
func (r *reader) number() (uint64, bool) {
	n, width := Read(r.rest)
	r.rest = r.rest[width:]
	return n, width > 0
}

// above takes a number that is told by how many lie between the last one and it.
func (r *reader) above(last int) (int, bool) {
	n, ok := r.number()
	if !ok || n >= uint64(int64(greatest)-int64(last)) { // there are as many numbers above the last one
		return 0, false
	}
	return last + 1 + int(n), true
}

// rising takes rising numbers: how many there are, and each of them.
func (r *reader) rising() ([]int, bool) {
	n, ok := r.number()
	if !ok || n >= uint64(len(r.rest)) { // n + 1 numbers have as many bytes at least
		return nil, false
	}
	l := make([]int, n+1)
	last := ahead
	for i := range l {
		if last, ok = r.above(last); !ok {
			return nil, false
		}
		l[i] = last
	}
	return l, true
}

// posting takes a posting that stands behind one of that Doc.
func (r *reader) posting(last int) (api.Posting, bool) {
	doc, ok := r.above(last)
	if !ok {
		return api.Posting{}, false
	}
	at, ok := r.rising()
	return api.Posting{Doc: doc, At: at}, ok
}
