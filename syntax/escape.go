package syntax

import (
	"strings"

	"trema/api"
	"trema/norm"
	"trema/rset"
	"trema/ucd"
	"trema/utf"
)

// The digits, and how many of them each kind of number has.
const (
	digits     = "0123456789abcdef"
	decimal    = 10
	hex        = 16
	mostDigits = 6 // of a code point
)

// digit is what a segment counts as a digit of that base, large or small; -1, if it
// is none.
func digit(text string, base int) int {
	if len(text) != 1 {
		return -1
	}
	return strings.Index(digits[:base], strings.ToLower(text))
}

// number reads a number of times that is no less than another. All digits that stand
// there are the number, so that it is judged as a whole.
func (r *reader) number(least int) int {
	start, n := r.at, 0
	for ; digit(r.next(), decimal) >= 0; r.at++ {
		n = min(n*decimal+digit(r.next(), decimal), api.MaxRepeat+1) // more digits don't make it less
	}
	long := r.at - start
	ahead := long > 1 && r.segments[start].Text == "0"
	if long == 0 || ahead || n < least || n > api.MaxRepeat {
		r.refuse(start)
	}
	return n
}

// letter reads what behind a "\" means one text.
func (r *reader) letter() string {
	text := r.next()
	if text == "u" {
		return r.numbered()
	}
	if text != "-" && !Sign(text) {
		r.refuse(r.at)
	}
	r.at++
	return text
}

// numbered reads a letter that is told by its code point.
func (r *reader) numbered() string {
	r.want("u")
	r.want("{")
	n := r.codePoint()
	r.want("}")
	return norm.Text(utf.Encode([]int32{n}))
}

// codePoint reads a code point's digits.
func (r *reader) codePoint() int32 {
	start, n := r.at, 0
	for ; r.at < start+mostDigits && digit(r.next(), hex) >= 0; r.at++ {
		n = n*hex + digit(r.next(), hex)
	}
	if r.at == start || !utf.Valid(int32(n)) {
		r.refuse(start)
	}
	return int32(n)
}

// namesCategory says whether a category comes next.
func (r *reader) namesCategory() bool {
	return r.next() == "\\" && (r.text(1) == "p" || r.text(1) == "P")
}

// category reads the code points of a category, or the others.
func (r *reader) category() []api.Range {
	r.want("\\")
	others := r.next() == "P"
	r.at++
	r.want("{")
	category, ok := ucd.Named(r.next())
	if !ok {
		r.refuse(r.at)
	}
	r.at++
	r.want("}")
	if others {
		return rset.Not(ucd.Ranges(category))
	}
	return ucd.Ranges(category)
}
