package syntax

import (
	"slices"
	"strconv"
	"strings"
	"testing"

	"trema/api"
	"trema/norm"
	"trema/seg"
	"trema/segset"
	"trema/ucd"
)

// answer is what Parse answers.
type answer struct {
	steps []api.Node
	place int
	e     api.Errno
}

func parse(in string) answer {
	steps, place, e := Parse([]byte(in))
	return answer{steps, place, e}
}

// refusedAt is a refusal of a pattern's form.
func refusedAt(place int) answer { return answer{place: place, e: api.ErrForm} }

// same sees to it that Parse answers that.
func same(t *testing.T, in string, want answer) {
	t.Helper()
	got := parse(in)
	if got.place != want.place || got.e != want.e || !alike(got.steps, want.steps) {
		t.Fatalf("Parse(%+q): %s %d %v, but should be %s %d %v", in, told(got.steps), got.place, got.e, told(want.steps), want.place, want.e)
	}
}

// alike says whether two lists of steps are the same field by field.
func alike(a, b []api.Node) bool {
	return slices.EqualFunc(a, b, func(x, y api.Node) bool {
		return x.Kind == y.Kind && x.Min == y.Min && x.Max == y.Max && slices.Equal(x.Set.Single, y.Set.Single) &&
			slices.Equal(x.Set.Multi, y.Set.Multi) && slices.Equal(x.Set.Odd, y.Set.Odd)
	})
}

// told is a short form of steps.
func told(l []api.Node) string {
	var s []string
	for _, n := range l {
		switch n.Kind {
		case api.NodeSet:
			s = append(s, toldSet(n.Set))
		case api.NodeRepeat:
			s = append(s, "*"+strconv.Itoa(n.Min)+","+strconv.Itoa(n.Max))
		default:
			s = append(s, "?e_^$.|_"[n.Kind:n.Kind+1])
		}
	}
	return strings.Join(s, " ")
}

func toldSet(s api.Set) string {
	text := "["
	for _, x := range s.Single {
		text += " " + strconv.FormatInt(int64(x.Lo), 16) + "-" + strconv.FormatInt(int64(x.Hi), 16)
	}
	text += " /"
	for _, x := range s.Multi {
		text += " " + strconv.FormatInt(int64(x.Lo), 16) + "-" + strconv.FormatInt(int64(x.Hi), 16)
	}
	return text + " / " + strconv.QuoteToASCII(strings.Join(s.Odd, " ")) + " ]"
}

// The states of a machine that reads as the chapter's grammar goes: by what stands
// ahead of the segment that comes.
const (
	rowOpen     = iota // nothing that times could follow
	atomRead           // an atom
	timesOpen          // "{"
	firstDigit         // and some digits
	comma              // and ","
	secondDigit        // and some more
	escaped            // "\"
	unicode            // "\u"
	hexOpen            // "\u{"
	hexDigit           // and some digits
	named              // "\p" or "\P"
	nameOpen           // and "{"
	nameRead           // and a name
	classOpen          // "["
	classNot           // "[^"
	itemsRead          // some items, the last of which can't be a range's first
	oneRead            // a one, that may be
	rangeOpen          // and "-"
)

// machine goes over the segments once. Where it may have to come back, it keeps the
// places.
type machine struct {
	state   int
	at      int
	start   int    // where digits begin
	value   int    // what they say so far
	least   int    // the number ahead of the comma
	oneAt   int    // where the last one begins, with its "\"
	name    string // "p" or "P", and a letter
	inClass bool
	ranging bool    // a range's "-" was read, and not yet its second one
	others  bool    // "^" was read
	class   api.Set // what all items mean, but for the last where that may be a range's first
	one     string  // that one
	groups  []counted
	out     []api.Node
	fault   *answer
}

// counted is how many rows of a group are there, and how many parts of its last one.
type counted struct{ rows, parts int }

// said is what the chapter says of a pattern.
func said(in string) answer {
	segments, e := seg.Split([]byte(in), api.MaxSegment)
	if e != api.OK {
		return answer{place: len(segments), e: e}
	}
	if len(segments) > api.MaxPattern {
		return answer{e: api.ErrLong}
	}
	m := &machine{groups: []counted{{}}}
	for _, x := range segments {
		if m.read(x.Text); m.fault != nil {
			return *m.fault
		}
		m.at++
	}
	if m.judge(); m.fault != nil {
		return *m.fault
	}
	if m.state != rowOpen && m.state != atomRead || len(m.groups) > 1 {
		return refusedAt(m.at)
	}
	m.endGroup()
	return answer{steps: m.out}
}

// wrong is a fault, if none was found ahead.
func (m *machine) wrong(place int) {
	if m.fault == nil {
		m.fault = &answer{place: place, e: api.ErrForm}
	}
}

// judge sees to digits that are over.
func (m *machine) judge() {
	switch m.state {
	case firstDigit:
		m.least = m.value
	case secondDigit:
		if m.value < m.least {
			m.wrong(m.start)
		}
	case hexDigit:
		if m.value > 0x10FFFF || m.value >= 0xD800 && m.value < 0xE000 {
			m.wrong(m.start)
		}
	}
	if (m.state == firstDigit || m.state == secondDigit) && m.value > 64 {
		m.wrong(m.start)
	}
}

// step lays down a step that is a part of a row.
func (m *machine) step(n api.Node) {
	m.out = append(m.out, n)
	m.groups[len(m.groups)-1].parts++
}

// cat joins the last part to those ahead: it is told behind the part's times.
func (m *machine) cat() {
	if g := m.groups[len(m.groups)-1]; g.parts > 1 && (m.state == rowOpen || m.state == atomRead) {
		m.groups[len(m.groups)-1].parts = 1
		m.out = append(m.out, api.Node{Kind: api.NodeCat})
	}
}

func (m *machine) endRow() {
	m.cat()
	g := &m.groups[len(m.groups)-1]
	if g.parts == 0 {
		m.out = append(m.out, api.Node{Kind: api.NodeEmpty})
	}
	if g.rows > 0 {
		m.out = append(m.out, api.Node{Kind: api.NodeOr})
	}
	g.rows++
	g.parts = 0
}

func (m *machine) endGroup() {
	m.endRow()
	m.groups = m.groups[:len(m.groups)-1]
}

func (m *machine) read(text string) {
	if m.state == firstDigit || m.state == secondDigit {
		if one(text, "0123456789") {
			if m.at > m.start && m.value == 0 {
				m.value = 65 // a nought ahead: none that may be
			}
			m.value = min(m.value*10+int(text[0]-'0'), 65)
			return
		}
	}
	if m.state == hexDigit && m.at < m.start+6 && one(text, "0123456789abcdefABCDEF") {
		n, _ := strconv.ParseInt(text, 16, 64)
		m.value = m.value*16 + int(n)
		return
	}
	if m.judge(); m.fault != nil {
		return
	}
	switch {
	case m.state <= atomRead:
		m.readPart(text)
	case m.state <= secondDigit:
		m.readTimes(text)
	case m.state <= nameRead:
		m.readEscape(text)
	default:
		m.readClass(text)
	}
}

// one says whether a text is one of some letters.
func one(text, letters string) bool {
	return len(text) == 1 && strings.IndexByte(letters, text[0]) >= 0
}

func (m *machine) readPart(text string) {
	times := map[string][2]int{"*": {0, -1}, "+": {1, -1}, "?": {0, 1}}
	if n, ok := times[text]; ok && m.state == atomRead {
		m.out = append(m.out, api.Node{Kind: api.NodeRepeat, Min: n[0], Max: n[1]})
		m.state = rowOpen
		return
	}
	if text == "{" && m.state == atomRead {
		m.state = timesOpen
		return
	}
	switch m.cat(); text {
	case "|":
		m.endRow()
		m.state = rowOpen
	case "(":
		if len(m.groups) == 33 {
			m.fault = &answer{place: m.at, e: api.ErrDeep}
			return
		}
		m.groups = append(m.groups, counted{})
		m.state = rowOpen
	case ")":
		if len(m.groups) == 1 {
			m.wrong(m.at)
			return
		}
		m.endGroup()
		m.groups[len(m.groups)-1].parts++
		m.state = atomRead
	case "^", "$":
		m.step(api.Node{Kind: map[string]int{"^": api.NodeBegin, "$": api.NodeEnd}[text]})
		m.state = rowOpen
	case ".":
		m.step(api.Node{Kind: api.NodeSet, Set: segset.All()})
		m.state = atomRead
	case "[":
		m.state, m.inClass, m.others, m.class = classOpen, true, false, api.Set{}
	case "\\":
		m.state, m.oneAt = escaped, m.at
	case "]", "{", "}", "*", "+", "?":
		m.wrong(m.at)
	default:
		m.letter(text)
	}
}

func (m *machine) readTimes(text string) {
	switch {
	case (m.state == timesOpen || m.state == comma) && one(text, "0123456789"):
		m.start, m.value = m.at, int(text[0]-'0')
		m.state++
	case m.state == firstDigit && text == ",":
		m.state = comma
	case m.state != timesOpen && text == "}":
		n := api.Node{Kind: api.NodeRepeat, Min: m.least, Max: m.value}
		if m.state == comma {
			n.Max = -1
		}
		m.out = append(m.out, n)
		m.state = rowOpen
	default:
		m.wrong(m.at)
	}
}

func (m *machine) readEscape(text string) {
	switch {
	case m.state == escaped && one(text, `|()[]*+?{}^$.\-`):
		m.letter(text)
	case m.state == escaped && text == "u":
		m.state = unicode
	case m.state == escaped && one(text, "pP") && !m.ranging:
		m.state, m.name = named, text
	case (m.state == unicode || m.state == named) && text == "{":
		m.state++
		m.start = m.at + 1
	case m.state == hexOpen && one(text, "0123456789abcdefABCDEF"):
		n, _ := strconv.ParseInt(text, 16, 64)
		m.state, m.value = hexDigit, int(n)
	case m.state == hexDigit && text == "}":
		m.letter(string(utf8Of(norm.Normal([]int32{int32(m.value)}))))
	case m.state == nameOpen && one(text, "LMNPSZC"):
		m.state, m.name = nameRead, m.name+text
	case m.state == nameRead && text == "}":
		m.category()
	default:
		m.wrong(m.at)
	}
}

func utf8Of(l []int32) string {
	s := ""
	for _, r := range l {
		s += string(r)
	}
	return s
}

func (m *machine) category() {
	kinds := map[byte]int{'L': ucd.L, 'M': ucd.M, 'N': ucd.N, 'P': ucd.P, 'S': ucd.S, 'Z': ucd.Z, 'C': ucd.C}
	s := segset.First(ucd.Ranges(kinds[m.name[1]]))
	if m.name[0] == 'P' {
		s = segset.Not(s)
	}
	if m.inClass {
		m.class = segset.Union(m.class, s)
		m.state = itemsRead
		return
	}
	m.step(api.Node{Kind: api.NodeSet, Set: s})
	m.state = atomRead
}

// letter is a letter, or a segment that is no sign: an atom, an item, or an end of
// a range.
func (m *machine) letter(text string) {
	if !m.inClass {
		m.step(api.Node{Kind: api.NodeSet, Set: segset.Of(text)})
		m.state = atomRead
		return
	}
	if !m.ranging {
		m.one, m.state = text, oneRead
		return
	}
	a, b := norm.Runes(m.one), norm.Runes(text)
	if len(a) != 1 || len(b) != 1 || a[0] > b[0] {
		m.wrong(m.oneAt)
		return
	}
	m.class = segset.Union(m.class, segset.Ones([]api.Range{{Lo: a[0], Hi: b[0]}}))
	m.ranging, m.state = false, itemsRead
}

func (m *machine) readClass(text string) {
	if m.state == oneRead && text == "-" {
		m.state, m.ranging = rangeOpen, true
		return
	}
	if m.state == oneRead {
		m.class = segset.Union(m.class, segset.Of(m.one))
	}
	switch {
	case text == "^" && m.state == classOpen:
		m.state, m.others = classNot, true
	case text == "]" && (m.state == itemsRead || m.state == oneRead):
		if m.others {
			m.class = segset.Not(m.class)
		}
		m.inClass = false
		m.step(api.Node{Kind: api.NodeSet, Set: m.class})
		m.state = atomRead
	case text == "\\":
		m.state, m.oneAt = escaped, m.at
	case one(text, "[]-"):
		m.wrong(m.at)
	default:
		m.oneAt = m.at // where the one begins
		m.letter(text)
	}
}
