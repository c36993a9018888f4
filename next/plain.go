package next

import (
	"charabanc/bits"
	"charabanc/decode"
	"charabanc/flags"
	"charabanc/logic"
	"charabanc/regs"
	"charabanc/shift"
	"charabanc/sum"
	"charabanc/wide"
)

const (
	stackedAF = 3 // the pair of PUSH and POP that is AF, not SP
	apart     = 8 // bytes from one restart to the next
)

// alone is the quarters of the codes that no CB or ED stands ahead of, with one of them at hand.
func (m *machine) alone(code uint8) [4]func() {
	m.split(code)
	if decode.Near(m.plane, code) {
		m.aim()
		// LD of a number works M out while it reads the number.
		if m.x != 0 || m.z != 6 {
			m.pause(nearStates)
		}
	}
	return [4]func(){m.various, m.load, m.reckon, m.control}
}

// various is the codes with x 0.
func (m *machine) various() {
	switch m.z {
	case 0:
		m.branch()
	case 1:
		m.wholePair()
	case 2:
		m.throughPlace()
	case 3:
		m.stepPair()
	case 4:
		m.count(sum.Inc)
	case 5:
		m.count(sum.Dec)
	case 6:
		m.loadNumber()
	case 7:
		m.adjust()
	}
}

// load is the codes with x 1.
func (m *machine) load() {
	if m.y == memory && m.z == memory {
		m.r.Halted = true
		return
	}
	m.put(m.y, m.get(m.z))
}

// reckon is the codes with x 2.
func (m *machine) reckon() { m.arithmetic(m.get(m.z)) }

// control is the codes with x 3.
func (m *machine) control() {
	switch m.z {
	case 0:
		m.pause(1)
		if m.holds(m.y) {
			m.goTo(m.pop())
		}
	case 1:
		m.unstack()
	case 2:
		m.r.WZ = m.word()
		if m.holds(m.y) {
			m.r.PC = m.r.WZ
		}
	case 3:
		m.single()
	case 4:
		m.call(m.holds(m.y))
	case 5:
		m.stack()
	case 6:
		m.arithmetic(m.number())
	case 7:
		m.pause(1)
		m.push(m.r.PC)
		m.goTo(uint16(apart * m.y))
	}
}

func (m *machine) holds(condition int) bool { return flags.Test(m.f(), condition) }

// branch is NOP, EX AF, and the jumps by a displacement.
func (m *machine) branch() {
	switch m.y {
	case 0:
	case 1:
		m.r = regs.Swap(m.r)
	case 2:
		m.pause(1)
		left := m.lessB()
		m.jumpBy(left != 0)
	case 3:
		m.jumpBy(true)
	default:
		m.jumpBy(m.holds(m.y - half))
	}
}

// jumpBy reads a displacement, and jumps by it if something holds.
func (m *machine) jumpBy(holds bool) {
	e := m.number()
	if !holds {
		return
	}
	m.pause(5)
	m.goTo(wide.Near(m.r.PC, e))
}

// wholePair is LD of a word, and ADD.
func (m *machine) wholePair() {
	if m.q == 0 {
		m.setPair(m.word())
		return
	}
	m.pause(7)
	hl := m.hl()
	m.r.WZ = hl + 1
	w, f := wide.Add(hl, m.pair(), m.f())
	m.setHL(w)
	m.setF(f)
}

// throughPlace is LD of what stands where a pair or a word says.
func (m *machine) throughPlace() {
	switch m.y {
	case 0, 2:
		m.storeA(m.pair())
	case 1, 3:
		m.loadA(m.pair())
	case 4:
		m.storeWord(m.word(), m.hl())
	case 5:
		m.setHL(m.loadWord(m.word()))
	case 6:
		m.storeA(m.word())
	case 7:
		m.loadA(m.word())
	}
}

func (m *machine) storeA(at uint16) {
	m.write(at, m.a())
	m.trailA(at)
}

// trailA sets WZ as a place leaves it that A is sent to.
func (m *machine) trailA(at uint16) { m.r.WZ = bits.Word(m.a(), bits.Lo(at)+1) }

func (m *machine) loadA(at uint16) {
	m.setA(m.read(at))
	m.r.WZ = at + 1
}

func (m *machine) storeWord(at, w uint16) {
	m.write(at, bits.Lo(w))
	m.write(at+1, bits.Hi(w))
	m.r.WZ = at + 1
}

func (m *machine) loadWord(at uint16) uint16 {
	w := m.wordAt(at)
	m.r.WZ = at + 1
	return w
}

// stepPair is INC and DEC of a pair.
func (m *machine) stepPair() {
	m.pause(2)
	if m.q == 0 {
		m.setPair(m.pair() + 1)
	} else {
		m.setPair(m.pair() - 1)
	}
}

// count is INC or DEC of a byte.
func (m *machine) count(one func(b, f uint8) (uint8, uint8)) {
	b := m.get(m.y)
	if m.y == memory {
		m.pause(1)
	}
	r, f := one(b, m.f())
	m.setF(f)
	m.put(m.y, r)
}

// loadNumber is LD of an immediate byte.
func (m *machine) loadNumber() {
	n := m.number()
	if m.near {
		m.pause(2)
	}
	m.put(m.y, n)
}

// adjust is what changes A and F alone.
func (m *machine) adjust() {
	a, f := m.a(), m.f()
	switch m.y {
	case 4:
		a, f = logic.Daa(a, f)
	case 5:
		a, f = logic.Cpl(a, f)
	case 6:
		f = logic.Scf(a, f)
	case 7:
		f = logic.Ccf(a, f)
	default:
		a, f = shift.Acc(m.y, a, f)
	}
	m.r.AF = bits.Word(a, f)
}

// arithmetic is the operation y of A and a byte.
func (m *machine) arithmetic(b uint8) {
	a, f := m.a(), m.f()
	carry := m.carry() != 0
	switch m.y {
	case 0:
		a, f = sum.Add(a, b, false)
	case 1:
		a, f = sum.Add(a, b, carry)
	case 2:
		a, f = sum.Sub(a, b, false)
	case 3:
		a, f = sum.Sub(a, b, carry)
	case 4:
		a, f = logic.And(a, b)
	case 5:
		a, f = logic.Xor(a, b)
	case 6:
		a, f = logic.Or(a, b)
	case 7:
		f = sum.Cmp(a, b)
	}
	m.r.AF = bits.Word(a, f)
}

// unstack is POP, and the codes beside it.
func (m *machine) unstack() {
	switch {
	case m.q == 0 && m.p == stackedAF:
		m.r.AF = m.pop()
	case m.q == 0:
		m.setPair(m.pop())
	case m.p == 0:
		m.goTo(m.pop())
	case m.p == 1:
		m.r = regs.Exx(m.r)
	case m.p == 2:
		m.r.PC = m.hl()
	case m.p == 3:
		m.pause(2)
		m.r.SP = m.hl()
	}
}

// stack is PUSH, and CALL without a condition: the other codes beside them are prefixes.
func (m *machine) stack() {
	if m.q != 0 {
		m.call(true)
		return
	}
	m.pause(1)
	if m.p == stackedAF {
		m.push(m.r.AF)
	} else {
		m.push(m.pair())
	}
}

// call reads a word, and calls what is there if something holds.
func (m *machine) call(holds bool) {
	m.r.WZ = m.word()
	if !holds {
		return
	}
	m.pause(1)
	m.push(m.r.PC)
	m.r.PC = m.r.WZ
}

// single is the codes with x 3 and z 3, which have little to do with each other; y 1 is a prefix.
func (m *machine) single() {
	switch m.y {
	case 0:
		m.goTo(m.word())
	case 2:
		port := bits.Word(m.a(), m.number())
		m.out(port, m.a())
		m.trailA(port)
	case 3:
		port := bits.Word(m.a(), m.number())
		m.setA(m.in(port))
		m.r.WZ = port + 1
	case 4:
		m.exchangeTop()
	case 5:
		m.r.DE, m.r.HL = m.r.HL, m.r.DE
	case 6:
		m.r.IFF1, m.r.IFF2 = false, false
	case 7:
		m.r.IFF1, m.r.IFF2, m.r.Late = true, true, true
	}
}

// exchangeTop is EX (SP),HL.
func (m *machine) exchangeTop() {
	w, old := m.wordAt(m.r.SP), m.hl()
	m.pause(1)
	m.write(m.r.SP+1, bits.Hi(old))
	m.write(m.r.SP, bits.Lo(old))
	m.pause(2)
	m.setHL(w)
	m.r.WZ = w
}
