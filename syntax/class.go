package syntax

import (
	"trema/api"
	"trema/norm"
	"trema/segset"
)

// class reads what stands behind a "[", its "]" too.
func (r *reader) class() api.Set {
	others := r.skip("^")
	var all gathered
	all.add(r.item())
	for !r.skip("]") {
		all.add(r.item())
	}
	if others {
		return segset.Not(all.set())
	}
	return all.set()
}

// item reads one item of a class.
func (r *reader) item() api.Set {
	if r.namesCategory() {
		return segset.First(r.category())
	}
	first := r.one()
	if !r.skip("-") {
		return segset.Of(first)
	}
	start := r.at
	second := r.one()
	return segset.Ones([]api.Range{r.between(first, second, start)})
}

// one reads an item's text, or an end of its range.
func (r *reader) one() string {
	if r.skip("\\") {
		return r.letter()
	}
	text := r.next()
	if text == "" || text == "[" || text == "]" || text == "-" {
		r.refuse(r.at)
	}
	r.at++
	return text
}

// between is the code points from the one that is the first text to the one that is
// the second, which stands at that place.
func (r *reader) between(first, second string, place int) api.Range {
	a, b := norm.Runes(first), norm.Runes(second)
	if len(a) != 1 || len(b) != 1 || a[0] > b[0] {
		r.refuse(place)
	}
	return api.Range{Lo: a[0], Hi: b[0]}
}

// gathered is the sets of a class's items, field by field: they are united all at
// once, since one by one a class of many items would take long. Each of them says
// either how texts begin or which ones they are: no set has both Multi and Odd.
type gathered struct {
	begun, odd api.Set
}

func (g *gathered) add(s api.Set) {
	g.begun.Single = append(g.begun.Single, s.Single...)
	g.begun.Multi = append(g.begun.Multi, s.Multi...)
	g.odd.Odd = append(g.odd.Odd, s.Odd...)
}

func (g *gathered) set() api.Set {
	return segset.Union(g.begun, g.odd)
}
