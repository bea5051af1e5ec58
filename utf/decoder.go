package utf

import (
	"slices"

	"trema/api"
)

// Decoder reads code points as bytes come.
type Decoder struct {
	kept   [3]byte // a beginning is always shorter than the longest sequence
	count  int     // how many of kept are there
	at     int     // where they begin
	closed bool
}

// New is a decoder that has been handed nothing.
func New() *Decoder {
	return &Decoder{}
}

// Write reads on.
func (d *Decoder) Write(b []byte) []api.Point {
	if d == nil || d.closed {
		return nil
	}
	if d.count > 0 {
		b = slices.Concat(d.kept[:d.count], b)
	}
	l, done := read(b, d.at)
	d.at += done
	d.count = copy(d.kept[:], b[done:])
	return l
}

// Close tells what was kept back.
func (d *Decoder) Close() []api.Point {
	if d == nil {
		return nil
	}
	d.closed = true
	if d.count == 0 {
		return nil
	}
	p := api.Point{Rune: replacement, At: d.at, Width: d.count}
	d.count = 0
	return []api.Point{p}
}

// Pending is how many bytes are kept back.
func (d *Decoder) Pending() int {
	if d == nil {
		return 0
	}
	return d.count
}
