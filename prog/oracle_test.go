package prog

import (
	"fmt"
	"math"
	"slices"
	"strconv"
	"strings"
	"testing"
	"unicode/utf8"

	"trema/api"
	"trema/segset"
	"trema/syntax"
)

// The steps without a set.
var (
	empty = api.Node{Kind: api.NodeEmpty}
	begin = api.Node{Kind: api.NodeBegin}
	end   = api.Node{Kind: api.NodeEnd}
	cat   = api.Node{Kind: api.NodeCat}
	or    = api.Node{Kind: api.NodeOr}
	star  = times(0, -1)
)

func times(least, most int) api.Node {
	return api.Node{Kind: api.NodeRepeat, Min: least, Max: most}
}

func node(s api.Set) api.Node { return api.Node{Kind: api.NodeSet, Set: s} }

// set is the set of one text, or of all, by the chapters' words.
func set(text string) api.Set {
	if text == "." {
		all := []api.Range{{Lo: 0, Hi: api.MaxRune}}
		return api.Set{Single: all, Multi: slices.Clone(all)}
	}
	if utf8.RuneCountInString(text) > 1 {
		return api.Set{Odd: []string{text}}
	}
	r, _ := utf8.DecodeRuneInString(text)
	return api.Set{Single: []api.Range{{Lo: r, Hi: r}}}
}

// steps makes steps of their short form: "_" is Empty, "^" Begin, "$" End, "&" Cat,
// "|" Or, "*2,-1" a Repeat, and any other a Set of that text.
func steps(form string) []api.Node {
	var l []api.Node
	for _, x := range strings.Fields(form) {
		switch {
		case strings.Contains("_^$&|", x):
			l = append(l, []api.Node{empty, begin, end, cat, or}[strings.Index("_^$&|", x)])
		case x[0] == '*':
			l = append(l, times(numbers(x[1:])))
		default:
			l = append(l, node(set(x)))
		}
	}
	return l
}

// made makes a program of its short form: "x1,3" is a Split, "j4" a Jump, "^" Begin,
// "$" End, "M" Match, and any other a Set of that text.
func made(form string) []api.Instr {
	var p []api.Instr
	for _, x := range strings.Fields(form) {
		switch {
		case strings.Contains("^$M", x):
			p = append(p, api.Instr{Op: []int{api.OpBegin, api.OpEnd, api.OpMatch}[strings.Index("^$M", x)]})
		case x[0] == 'x':
			to, or := numbers(x[1:])
			p = append(p, api.Instr{Op: api.OpSplit, X: to, Y: or})
		case x[0] == 'j':
			to, _ := numbers(x[1:] + ",0")
			p = append(p, api.Instr{Op: api.OpJump, X: to})
		default:
			p = append(p, api.Instr{Op: api.OpSet, Set: set(x)})
		}
	}
	return p
}

func numbers(form string) (int, int) {
	a, b, _ := strings.Cut(form, ",")
	first, e := strconv.Atoi(a)
	second, f := strconv.Atoi(b)
	if e != nil || f != nil {
		panic("a test's own form: " + form)
	}
	return first, second
}

// told is the short form of a program.
func told(p []api.Instr) string {
	var l []string
	for _, x := range p {
		switch {
		case x.Op == api.OpSplit:
			l = append(l, fmt.Sprintf("x%d,%d", x.X, x.Y))
		case x.Op == api.OpJump:
			l = append(l, fmt.Sprintf("j%d", x.X))
		case x.Op == api.OpSet && len(x.Set.Single) == 1 && x.Set.Multi == nil:
			l = append(l, string(x.Set.Single[0].Lo))
		case x.Op == api.OpSet:
			l = append(l, fmt.Sprintf("%+q", x.Set))
		default:
			l = append(l, "?Sxj^$M"[max(x.Op, 0)%7:][:1])
		}
	}
	return strings.Join(l, " ")
}

// alike says whether two programs are the same field by field.
func alike(a, b []api.Instr) bool {
	return slices.EqualFunc(a, b, func(x, y api.Instr) bool {
		return x.Op == y.Op && x.X == y.X && x.Y == y.Y && equal(x.Set, y.Set)
	})
}

func equal(a, b api.Set) bool {
	return slices.Equal(a.Single, b.Single) && slices.Equal(a.Multi, b.Multi) && slices.Equal(a.Odd, b.Odd)
}

// thing is a step with its operands.
type thing struct {
	api.Node
	of []*thing
}

// takeLast takes the last thing from steps, going from the back; nil, if there is none.
func takeLast(l []api.Node) (*thing, []api.Node) {
	if len(l) == 0 {
		return nil, nil
	}
	x := &thing{Node: l[len(l)-1]}
	l = l[:len(l)-1]
	for range map[int]int{api.NodeRepeat: 1, api.NodeCat: 2, api.NodeOr: 2}[x.Kind] {
		var operand *thing
		operand, l = takeLast(l)
		if operand == nil {
			return nil, nil
		}
		x.of = append([]*thing{operand}, x.of...)
	}
	return x, l
}

// whole is the thing that steps are; nil, if they are none.
func whole(l []api.Node) *thing {
	x, rest := takeLast(l)
	if len(rest) > 0 {
		return nil
	}
	return x
}

// weigh is how many instructions a thing's code has, and how many that of the part
// has which has most.
func weigh(x *thing) (weight, most float64) {
	for _, y := range x.of {
		w, m := weigh(y)
		weight += w
		most = max(most, m)
	}
	switch x.Kind {
	case api.NodeSet, api.NodeBegin, api.NodeEnd:
		weight = 1
	case api.NodeOr:
		weight += 2
	case api.NodeRepeat:
		once := weight
		weight = float64(x.Min) * once
		if x.Max == -1 {
			weight += once + 2
		} else {
			weight += float64(x.Max-x.Min) * (once + 1)
		}
	}
	return weight, max(most, weight)
}

// written is a thing's code, addresses counted from its first instruction.
func written(x *thing) []api.Instr {
	var parts [][]api.Instr
	for _, y := range x.of {
		parts = append(parts, written(y))
	}
	switch x.Kind {
	case api.NodeSet:
		return []api.Instr{{Op: api.OpSet, Set: x.Set}}
	case api.NodeBegin:
		return []api.Instr{{Op: api.OpBegin}}
	case api.NodeEnd:
		return []api.Instr{{Op: api.OpEnd}}
	case api.NodeCat:
		return joined(parts[0], parts[1])
	case api.NodeOr:
		a, b := len(parts[0]), len(parts[1])
		l := joined([]api.Instr{{Op: api.OpSplit, X: 1, Y: a + 2}}, parts[0])
		l = append(l, api.Instr{Op: api.OpJump, X: a + b + 2})
		return joined(l, parts[1])
	case api.NodeRepeat:
		return repeated(parts[0], x.Min, x.Max)
	}
	return nil
}

func repeated(code []api.Instr, least, most int) []api.Instr {
	n := len(code)
	var l []api.Instr
	for range least {
		l = joined(l, code)
	}
	if most == -1 {
		loop := joined([]api.Instr{{Op: api.OpSplit, X: 1, Y: n + 2}}, code)
		return joined(l, append(loop, api.Instr{Op: api.OpJump}))
	}
	end := least*n + (most-least)*(n+1)
	for range most - least {
		l = append(l, api.Instr{Op: api.OpSplit, X: len(l) + 1, Y: end})
		l = joined(l, code)
	}
	return l
}

// joined is a code with another one behind it, which moves.
func joined(a, b []api.Instr) []api.Instr {
	l := slices.Clone(a)
	for _, x := range b {
		if x.Op == api.OpSplit || x.Op == api.OpJump {
			x.X += len(a)
		}
		if x.Op == api.OpSplit {
			x.Y += len(a)
		}
		l = append(l, x)
	}
	return l
}

// said is what Compile answers by the chapter's words.
func said(l []api.Node) ([]api.Instr, api.Errno) {
	if !syntax.May(l) {
		return nil, api.ErrForm
	}
	x := whole(l)
	if _, most := weigh(x); most > api.MaxWeight-1 {
		return nil, api.ErrWeight
	}
	return append(written(x), api.Instr{Op: api.OpMatch}), api.OK
}

// sameAsSaid sees to it that Compile answers so.
func sameAsSaid(t *testing.T, l []api.Node) []api.Instr {
	t.Helper()
	p, e := Compile(l)
	want, f := said(l)
	if e != f || !alike(p, want) {
		t.Fatalf("%v: %s %v, but should be %s %v", l, told(p), e, told(want), f)
	}
	if may := e == api.OK; May(p) != may || may != (len(p) >= 1 && len(p) <= api.MaxWeight) {
		t.Fatalf("%v: a program that may not be, or beside an error: %s", l, told(p))
	}
	return p
}

// sound is May by the chapter's words.
func sound(p []api.Instr) bool {
	if len(p) == 0 || len(p) > api.MaxWeight || p[len(p)-1].Op != api.OpMatch {
		return false
	}
	for _, x := range p {
		hasX, hasY, hasSet := false, false, false
		switch x.Op {
		case api.OpSet:
			hasSet = true
		case api.OpSplit:
			hasX, hasY = true, true
		case api.OpJump:
			hasX = true
		case api.OpBegin, api.OpEnd, api.OpMatch:
		default:
			return false
		}
		inX, inY := x.X >= 0 && x.X < len(p), x.Y >= 0 && x.Y < len(p)
		if hasX && !inX || !hasX && x.X != 0 || hasY && !inY || !hasY && x.Y != 0 {
			return false
		}
		if hasSet && !segset.May(x.Set) || !hasSet && len(x.Set.Single)+len(x.Set.Multi)+len(x.Set.Odd) > 0 {
			return false
		}
	}
	return true
}

// reached is Reach by the chapter's words: what is there, and what is reached from
// that, till nothing is new.
func reached(p []api.Instr, from []int, begin, end bool) []int {
	there := map[int]bool{}
	for _, at := range from {
		if sound(p) && at >= 0 && at < len(p) {
			there[at] = true
		}
	}
	for more := true; more; {
		more = false
		for at, x := range p {
			if !there[at] {
				continue
			}
			var to []int
			switch {
			case x.Op == api.OpSplit:
				to = []int{x.X, x.Y}
			case x.Op == api.OpJump:
				to = []int{x.X}
			case x.Op == api.OpBegin && begin, x.Op == api.OpEnd && end:
				to = []int{at + 1}
			}
			for _, y := range to {
				more = more || !there[y]
				there[y] = true
			}
		}
	}
	var l []int
	for at := range there {
		l = append(l, at)
	}
	slices.Sort(l)
	return l
}

// ends are the places up to which texts are a word of a thing, from any of some
// places on: bits in, bits out.
func ends(x *thing, texts []string, from uint) uint {
	switch x.Kind {
	case api.NodeSet:
		to := uint(0)
		for i, text := range texts {
			if from>>i&1 == 1 && segset.Has(x.Set, text) {
				to |= 1 << (i + 1)
			}
		}
		return to
	case api.NodeBegin:
		return from & 1
	case api.NodeEnd:
		return from & (1 << len(texts))
	case api.NodeCat:
		return ends(x.of[1], texts, ends(x.of[0], texts, from))
	case api.NodeOr:
		return ends(x.of[0], texts, from) | ends(x.of[1], texts, from)
	case api.NodeRepeat:
		return oftenEnds(x, texts, from)
	}
	return from
}

// oftenEnds is ends of a repeat. No more rounds than places are of use behind the
// least number of them.
func oftenEnds(x *thing, texts []string, from uint) uint {
	most := x.Max
	if most == -1 {
		most = x.Min + len(texts) + 1
	}
	to := uint(0)
	for round := 0; round <= most; round++ {
		if round >= x.Min {
			to |= from
		}
		from = ends(x.of[0], texts, from)
	}
	return to
}

// run is the places up to which a program matches, from the first one on.
func run(p []api.Instr, texts []string) uint {
	to := uint(0)
	from := []int{0}
	for i := 0; i <= len(texts); i++ {
		at := Reach(p, from, i == 0, i == len(texts))
		from = nil
		for _, x := range at {
			if p[x].Op == api.OpMatch {
				to |= 1 << i
			}
			if p[x].Op == api.OpSet && i < len(texts) && segset.Has(p[x].Set, texts[i]) {
				from = append(from, x+1)
			}
		}
	}
	return to
}

// dice are numbers without an order that can be seen, the same at every run.
type dice uint64

func (d *dice) roll(n int) int {
	*d = *d*6364136223846793005 + 1442695040888963407
	return int(uint64(*d)>>33) % n
}

func pick[E any](d *dice, l ...E) E { return l[d.roll(len(l))] }

// wild are numbers that are next to nothing's own.
var wild = []int{math.MinInt, math.MinInt32, -65, -2, -1, 7, 65, 4096, 1 << 31, 1 << 32, 1<<32 + 1, math.MaxInt - 1, math.MaxInt}
