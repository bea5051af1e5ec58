package stream

import (
	"trema/api"
	"trema/lazy"
	"trema/pike"
)

// engine runs a program over windows.
type engine interface {
	Longest(window []string, at int, begin, final bool) (end int, found, open bool, e api.Errno)
	States() int
}

// engineOf is the engine for a program with some room for states, both of which may be.
func engineOf(p []api.Instr, room int) engine {
	if room == 0 {
		return stateless(p)
	}
	m, _ := lazy.New(p, room)
	return m
}

// stateless is a program that layer 10 runs, anew each time.
type stateless []api.Instr

func (p stateless) Longest(window []string, at int, begin, final bool) (end int, found, open bool, e api.Errno) {
	return pike.Longest(p, window, at, begin, final)
}

func (p stateless) States() int { return 0 }
