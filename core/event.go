package core

import "charabanc/cycle"

// event is what happens in a state.
type event interface {
	// moves tells whether a byte is taken or put.
	moves() bool
}

// restart is that all begins anew, whatever was under way.
type restart struct{}

// away is a state in which the bus is let go; back: the last one of them.
type away struct{ back bool }

// state is one of a cycle's states: the cycle behind it, and whether a byte is taken or put in it.
type state struct {
	behind cycle.At
	moved  bool
}

// last is the last state of a cycle.
type last struct{ state }

func (restart) moves() bool { return false }
func (away) moves() bool    { return false }
func (s state) moves() bool { return s.moved }

// happens is what happens in the next state.
func happens(c Core, l Lines) event {
	l = heeded(c, l)
	if l == (Lines{Reset: true}) {
		return restart{}
	}
	if c.Off {
		return away{back: l == (Lines{})}
	}
	behind, moved, ended := cycle.Tick(c.A, l.Wait)
	s := state{behind, moved}
	if ended {
		return last{s}
	}
	return s
}

// heeded is the lines that decide what happens in a state: beside a reset no other one does, and while the bus is let go only the one that asks for it.
func heeded(c Core, l Lines) Lines {
	if l.Reset {
		return Lines{Reset: true}
	}
	if c.Off {
		return Lines{Bus: l.Bus}
	}
	return l
}
