package next

import (
	"charabanc/api"
	"charabanc/bits"
	"charabanc/decode"
	"charabanc/regs"
	"charabanc/wide"
)

// The states of the cycles.
const (
	fetchStates  = 4
	memoryStates = 3
	portStates   = 4
)

// The prefixes.
const (
	prefixCB = 0xcb
	prefixDD = 0xdd
	prefixED = 0xed
	prefixFD = 0xfd
)

const (
	memory = 6 // the y and the z of the byte at M
	regB   = 0 // the number of B
	regC   = 1 // the number of C
	half   = 4 // of the values of y and z

	nearStates = 5 // in which M is worked out
)

// machine is an instruction on its way: the registers so far, and the answers that are left.
type machine struct {
	r             api.Regs
	got           []uint8
	plane         int // whose registers are meant
	x, y, z, p, q int
	spot          uint16 // M
	near          bool   // M is near IX or IY
}

// run does the work: what it answers is the cycle that the work asks for without an answer, or the registers behind all of it.
func (m *machine) run(work func()) (asked api.Cycle, after api.Regs, done bool) {
	defer func() {
		if c, ok := recover().(api.Cycle); ok {
			asked = c
		}
	}()
	work()
	return api.Cycle{}, m.r, true
}

// ask is a cycle's answer. Without one, the execution ends here: run recovers.
func (m *machine) ask(c api.Cycle) uint8 {
	if len(m.got) == 0 {
		panic(c)
	}
	answer := m.got[0]
	m.got = m.got[1:]
	return answer
}

// glance is a Fetch that leaves PC where it is.
func (m *machine) glance() uint8 {
	b := m.ask(api.Cycle{Kind: api.Fetch, Addr: m.r.PC, T: fetchStates})
	m.r = regs.Tick(m.r, 1)
	return b
}

func (m *machine) fetch() uint8 {
	b := m.glance()
	m.r.PC++
	return b
}

func (m *machine) read(at uint16) uint8 {
	return m.ask(api.Cycle{Kind: api.Read, Addr: at, T: memoryStates})
}

func (m *machine) write(at uint16, b uint8) {
	m.ask(api.Cycle{Kind: api.Write, Addr: at, Data: b, T: memoryStates})
}

func (m *machine) in(port uint16) uint8 {
	return m.ask(api.Cycle{Kind: api.In, Addr: port, T: portStates})
}

func (m *machine) out(port uint16, b uint8) {
	m.ask(api.Cycle{Kind: api.Out, Addr: port, Data: b, T: portStates})
}

// pause is so many states within.
func (m *machine) pause(states int) {
	m.ask(api.Cycle{Kind: api.Inner, T: states})
}

// number is an immediate byte.
func (m *machine) number() uint8 {
	b := m.read(m.r.PC)
	m.r.PC++
	return b
}

// word is an immediate word.
func (m *machine) word() uint16 {
	lo := m.number()
	hi := m.number()
	return bits.Word(hi, lo)
}

// wordAt is the word that is read at a place.
func (m *machine) wordAt(at uint16) uint16 {
	lo := m.read(at)
	hi := m.read(at + 1)
	return bits.Word(hi, lo)
}

func (m *machine) push(w uint16) {
	m.r.SP--
	m.write(m.r.SP, bits.Hi(w))
	m.r.SP--
	m.write(m.r.SP, bits.Lo(w))
}

func (m *machine) pop() uint16 {
	w := m.wordAt(m.r.SP)
	m.r.SP += 2
	return w
}

// goTo is a jump that WZ follows.
func (m *machine) goTo(to uint16) { m.r.PC, m.r.WZ = to, to }

func (m *machine) a() uint8     { return bits.Hi(m.r.AF) }
func (m *machine) f() uint8     { return bits.Lo(m.r.AF) }
func (m *machine) setA(a uint8) { m.r.AF = bits.Word(a, m.f()) }
func (m *machine) setF(f uint8) { m.r.AF = bits.Word(m.a(), f) }

// carry is C of F, alone.
func (m *machine) carry() uint8 { return m.f() & api.FlagC }

// hl is HL of the plane.
func (m *machine) hl() uint16     { return regs.Pair(m.r, m.plane, 2) }
func (m *machine) setHL(w uint16) { m.r = regs.SetPair(m.r, m.plane, 2, w) }

// pair is the pair that the code names.
func (m *machine) pair() uint16     { return regs.Pair(m.r, m.plane, m.p) }
func (m *machine) setPair(w uint16) { m.r = regs.SetPair(m.r, m.plane, m.p, w) }

// get is a register, or the byte at M.
func (m *machine) get(k int) uint8 {
	if k == memory {
		return m.read(m.spot)
	}
	return regs.Get(m.r, m.plane, k)
}

// put sets a register, or the byte at M.
func (m *machine) put(k int, b uint8) {
	if k == memory {
		m.write(m.spot, b)
		return
	}
	m.r = regs.Set(m.r, m.plane, k, b)
}

// lessB decrements B, and answers it.
func (m *machine) lessB() uint8 {
	left := m.get(regB) - 1
	m.put(regB, left)
	return left
}

// aim reads a displacement and sets M by it.
func (m *machine) aim() {
	m.spot = wide.Near(m.hl(), m.number())
	m.r.WZ = m.spot
	m.near = true
	// Beside a byte near IX or IY, H and L are those of HL.
	m.plane = api.Plain
}

// split takes a code apart.
func (m *machine) split(code uint8) {
	m.x, m.y, m.z, m.p, m.q = decode.Fields(code)
}

// instruction executes an instruction whose first byte was fetched.
func (m *machine) instruction(code uint8) {
	m.r.Late = false
	for code == prefixDD || code == prefixFD {
		m.plane = api.DD
		if code == prefixFD {
			m.plane = api.FD
		}
		code = m.fetch()
	}
	m.spot = m.r.HL
	var quarters [4]func()
	switch code {
	case prefixCB:
		quarters = m.behindCB()
	case prefixED:
		quarters = m.behindED()
	default:
		quarters = m.alone(code)
	}
	quarters[m.x]()
}
