package accept

import (
	"charabanc/api"
	"charabanc/bits"
	"charabanc/next"
	"charabanc/regs"
)

// The states of the cycles.
const (
	fetchStates  = 4
	ackStates    = 6
	memoryStates = 3
)

// Where it goes on, if no table says so.
const (
	nonMaskableEntry = 102
	fixedEntry       = 56
)

// The prefixes.
const (
	prefixCB = 0xcb
	prefixDD = 0xdd
	prefixED = 0xed
	prefixFD = 0xfd
)

// service is an interrupt whose first cycle was answered: the registers behind that cycle, its answer, and the answers that are left.
type service struct {
	r      api.Regs
	vector uint8
	got    []uint8
}

// opening is the first cycle of an interrupt; or false, if none is taken.
func opening(pc uint16, which int) (api.Cycle, bool) {
	switch which {
	case nonMaskable:
		return api.Cycle{Kind: api.Fetch, Addr: pc, T: fetchStates}, true
	case maskable:
		return api.Cycle{Kind: api.Ack, Addr: pc, T: ackStates}, true
	}
	return api.Cycle{}, false
}

// begin is what every interrupt does behind its first cycle. PC stays: it is where the program goes on later.
func begin(r api.Regs, got []uint8) service {
	r.Halted, r.Late = false, false
	return service{r: regs.Tick(r, 1), vector: got[0], got: got[1:]}
}

// serveNonMaskable leaves IFF2, from which RETN restores IFF1.
func (s service) serveNonMaskable() (api.Cycle, api.Regs, bool) {
	s.r.IFF1 = false
	return s.restart(nonMaskableEntry)
}

func (s service) serveMaskable() (api.Cycle, api.Regs, bool) {
	s.r.IFF1, s.r.IFF2 = false, false
	modes := map[int]func() (api.Cycle, api.Regs, bool){
		0: s.instruction,
		1: s.fixed,
		2: s.throughTable,
	}
	mode, ok := modes[s.r.Mode]
	if !ok {
		mode = s.throughTable
	}
	return mode()
}

// instruction executes the one whose first byte is the vector.
func (s service) instruction() (api.Cycle, api.Regs, bool) {
	switch s.vector {
	case prefixCB, prefixDD, prefixED, prefixFD:
		return api.Cycle{}, s.r, true
	}
	return next.After(s.r, s.vector, s.got)
}

// fixed goes on where Mode 1 always does.
func (s service) fixed() (api.Cycle, api.Regs, bool) { return s.restart(fixedEntry) }

// restart pushes PC, and goes on at a place.
func (s service) restart(to uint16) (api.Cycle, api.Regs, bool) {
	l := s.leave()
	if len(s.got) < len(l) {
		return asked(l[len(s.got)])
	}
	return s.enter(to)
}

// throughTable pushes PC, and goes on where a table in memory says.
func (s service) throughTable() (api.Cycle, api.Regs, bool) {
	l := s.leave()
	at := bits.Word(s.r.I, s.vector)
	lo := len(l)
	hi := lo + 1
	l = append(l, read(at), read(at+1))
	if len(s.got) < len(l) {
		return asked(l[len(s.got)])
	}
	return s.enter(bits.Word(s.got[hi], s.got[lo]))
}

// leave is the cycles in which PC is pushed, and the state ahead of them.
func (s service) leave() []api.Cycle {
	return []api.Cycle{
		{Kind: api.Inner, T: 1},
		write(s.r.SP-1, bits.Hi(s.r.PC)),
		write(s.r.SP-2, bits.Lo(s.r.PC)),
	}
}

// enter is the end, behind what leave and a table ask for.
func (s service) enter(to uint16) (api.Cycle, api.Regs, bool) {
	s.r.SP -= 2
	s.r.PC, s.r.WZ = to, to
	return api.Cycle{}, s.r, true
}

// asked is what Next answers while a cycle has no answer.
func asked(c api.Cycle) (api.Cycle, api.Regs, bool) { return c, api.Regs{}, false }

func read(at uint16) api.Cycle {
	return api.Cycle{Kind: api.Read, Addr: at, T: memoryStates}
}

func write(at uint16, b uint8) api.Cycle {
	return api.Cycle{Kind: api.Write, Addr: at, Data: b, T: memoryStates}
}
