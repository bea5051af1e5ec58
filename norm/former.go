package norm

import "trema/ucd"

// Former has the normal form as code points come.
type Former struct {
	kept   []int32 // the marks behind the last starter, as they came
	closed bool
}

// New is a former that has been handed nothing.
func New() *Former {
	return &Former{}
}

// Write reads on. What is kept back is put in order only when a starter comes,
// so that a long run of marks costs the same however it is cut.
func (f *Former) Write(l []int32) []int32 {
	if f == nil || f.closed {
		return nil
	}
	full := f.kept
	sure := 0 // how much of full goes up to its last starter
	for _, r := range l {
		for _, part := range ucd.Decompose(r) {
			if starter(part) {
				order(full[sure:])
				sure = len(full) + 1
			}
			full = append(full, part)
		}
	}
	if sure == 0 {
		f.kept = full
		return nil
	}
	// A copy, since the answer's spare room is the caller's.
	f.kept = append([]int32(nil), full[sure:]...)
	return full[:sure]
}

// Close tells the rest.
func (f *Former) Close() []int32 {
	if f == nil {
		return nil
	}
	rest := f.kept
	f.kept, f.closed = nil, true
	order(rest)
	return rest
}

// Pending is how many code points are kept back.
func (f *Former) Pending() int {
	if f == nil {
		return 0
	}
	return len(f.kept)
}
