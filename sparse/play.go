package sparse

// The kinds of calls.
const (
	callAdd = iota + 1
	callHas
	callLen
	callAt
	callClear
)

// Op is a call.
type Op struct {
	Kind int
	V    int
}

// Play does calls on a new set, and tells their answers and what is there at the end.
func Play(size int, ops []Op) ([]int, []int) {
	s := New[int](size)
	var answers []int
	for _, o := range ops {
		answers = append(answers, play(s, o))
	}
	return answers, s.Values()
}

// play does one call, and tells its answer as a number.
func play(s *Set[int], o Op) int {
	switch o.Kind {
	case callAdd:
		return number(s.Add(o.V))
	case callHas:
		return number(s.Has(o.V))
	case callLen:
		return s.Len()
	case callAt:
		if v, ok := s.At(o.V); ok {
			return v
		}
		return -1
	case callClear:
		s.Clear()
		return 0
	}
	return -2
}

// number is 1 for yes and 0 for no.
func number(yes bool) int {
	if yes {
		return 1
	}
	return 0
}
