package syntax

import (
	"trema/api"
	"trema/segset"
)

// reader goes over a pattern's segments from the front, and lays down steps as it
// goes. Where it can't go on, it gives up by panic, so that no part of it needs to
// ask whether the parts that it called have got on.
type reader struct {
	segments []api.Segment
	at       int // the segment that is read next
	depth    int // how many groups are open
	steps    []api.Node
}

// refusal is what a reader gives up with.
type refusal struct {
	place int
	e     api.Errno
}

// read is what a pattern's segments say.
func read(segments []api.Segment) (steps []api.Node, place int, e api.Errno) {
	defer func() {
		if why := recover(); why != nil {
			given := why.(refusal)
			steps, place, e = nil, given.place, given.e
		}
	}()
	r := &reader{segments: segments}
	r.choice()
	if r.at < len(segments) {
		r.refuse(r.at)
	}
	return r.steps, 0, api.OK
}

// refuse gives up since nothing of a pattern's form can stand at a place.
func (r *reader) refuse(place int) {
	panic(refusal{place, api.ErrForm})
}

// text is the segment that stands so many behind the next one, and empty behind the
// last one, as no segment's text is.
func (r *reader) text(behind int) string {
	if r.at+behind >= len(r.segments) {
		return ""
	}
	return r.segments[r.at+behind].Text
}

// next is the segment that is read next.
func (r *reader) next() string {
	return r.text(0)
}

// skip goes over the next segment, if it is that one.
func (r *reader) skip(text string) bool {
	if r.next() != text {
		return false
	}
	r.at++
	return true
}

// want goes over the next segment, which has to be that one.
func (r *reader) want(text string) {
	if !r.skip(text) {
		r.refuse(r.at)
	}
}

// lay lays down a step without fields of its own.
func (r *reader) lay(kind int) {
	r.steps = append(r.steps, api.Node{Kind: kind})
}

func (r *reader) laySet(s api.Set) {
	r.steps = append(r.steps, api.Node{Kind: api.NodeSet, Set: s})
}

func (r *reader) layRepeat(least, most int) {
	r.steps = append(r.steps, api.Node{Kind: api.NodeRepeat, Min: least, Max: most})
}

func (r *reader) choice() {
	r.row()
	for r.skip("|") {
		r.row()
		r.lay(api.NodeOr)
	}
}

func (r *reader) row() {
	if r.rowEnds() {
		r.lay(api.NodeEmpty)
		return
	}
	r.part()
	for !r.rowEnds() {
		r.part()
		r.lay(api.NodeCat)
	}
}

// rowEnds says whether no part of a row can come next. What can't stand there at all
// is left to the part that is looked for there, or to what is wanted behind the row.
func (r *reader) rowEnds() bool {
	text := r.next()
	return text == "" || text == "|" || text == ")"
}

func (r *reader) part() {
	switch {
	case r.skip("^"):
		r.lay(api.NodeBegin)
	case r.skip("$"):
		r.lay(api.NodeEnd)
	default:
		r.atom()
		r.times()
	}
}

func (r *reader) atom() {
	switch {
	case r.next() == "(":
		r.group()
	case r.skip("."):
		r.laySet(segset.All())
	case r.skip("["):
		r.laySet(r.class())
	case r.namesCategory():
		r.laySet(segset.First(r.category()))
	case r.skip("\\"):
		r.laySet(segset.Of(r.letter()))
	case Sign(r.next()):
		r.refuse(r.at)
	default:
		r.laySet(segset.Of(r.next()))
		r.at++
	}
}

func (r *reader) group() {
	if r.depth == api.MaxDepth {
		panic(refusal{r.at, api.ErrDeep})
	}
	r.at++
	r.depth++
	r.choice()
	r.want(")")
	r.depth--
}

func (r *reader) times() {
	switch {
	case r.skip("*"):
		r.layRepeat(0, endless)
	case r.skip("+"):
		r.layRepeat(1, endless)
	case r.skip("?"):
		r.layRepeat(0, 1)
	case r.skip("{"):
		r.layRepeat(r.counts())
		r.want("}")
	}
}

// counts is how often, by the numbers between "{" and "}".
func (r *reader) counts() (least, most int) {
	least = r.number(0)
	if !r.skip(",") {
		return least, least
	}
	if r.next() == "}" {
		return least, endless
	}
	return least, r.number(least)
}
