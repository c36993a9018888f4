package next

import (
	"charabanc/api"
	"charabanc/bits"
	"charabanc/block"
	"charabanc/flags"
	"charabanc/shift"
	"charabanc/sum"
	"charabanc/wide"
)

const repeating = 6 // from that y on, block instructions are repeated

// modes is the Mode that IM sets, by the rest of y by 4.
var modes = [4]int{0, 0, 1, 2}

// behindED is the quarters of the codes behind ED, with one of them at hand.
func (m *machine) behindED() [4]func() {
	// DD and FD ahead of ED play no part.
	m.plane = api.Plain
	m.split(m.fetch())
	return [4]func(){m.nothing, m.extended, m.blocks, m.nothing}
}

func (m *machine) nothing() {}

// extended is the codes with x 1.
func (m *machine) extended() {
	switch m.z {
	case 0:
		m.takeIn()
	case 1:
		m.giveOut()
	case 2:
		m.addCarried()
	case 3:
		m.pairAtPlace()
	case 4:
		a, f := sum.Neg(m.a())
		m.r.AF = bits.Word(a, f)
	case 5:
		m.goTo(m.pop())
		m.r.IFF1 = m.r.IFF2
	case 6:
		m.r.Mode = modes[m.y%len(modes)]
	case 7:
		m.special()
	}
}

// takeIn is IN by C.
func (m *machine) takeIn() {
	b := m.in(m.r.BC)
	m.r.WZ = m.r.BC + 1
	m.setF(flags.Even(b) | m.carry())
	// Without a register, the flags are all that is left of the byte.
	if m.y != memory {
		m.put(m.y, b)
	}
}

// giveOut is OUT by C.
func (m *machine) giveOut() {
	var b uint8
	if m.y != memory {
		b = m.get(m.y)
	}
	m.out(m.r.BC, b)
	m.r.WZ = m.r.BC + 1
}

// addCarried is SBC and ADC of words.
func (m *machine) addCarried() {
	m.pause(7)
	m.r.WZ = m.r.HL + 1
	var f uint8
	if m.q == 0 {
		m.r.HL, f = wide.Sbc(m.r.HL, m.pair(), m.f())
	} else {
		m.r.HL, f = wide.Adc(m.r.HL, m.pair(), m.f())
	}
	m.setF(f)
}

// pairAtPlace is LD of a pair that stands where a word says.
func (m *machine) pairAtPlace() {
	at := m.word()
	if m.q == 0 {
		m.storeWord(at, m.pair())
	} else {
		m.setPair(m.loadWord(at))
	}
}

// special is LD of I and R, and RRD and RLD.
func (m *machine) special() {
	switch m.y {
	case 0:
		m.pause(1)
		m.r.I = m.a()
	case 1:
		m.pause(1)
		m.r.R = m.a()
	case 2:
		m.pause(1)
		m.show(m.r.I)
	case 3:
		m.pause(1)
		m.show(m.r.R)
	case 4, 5:
		m.turnDigits()
	}
}

// show sets A to I or R, and P to IFF2.
func (m *machine) show(b uint8) {
	f := flags.Result(b) | m.carry()
	if m.r.IFF2 {
		f |= api.FlagP
	}
	m.r.AF = bits.Word(b, f)
}

func (m *machine) turnDigits() {
	b := m.read(m.r.HL)
	m.pause(4)
	right := m.y == 4
	a, turned, f := shift.Digit(right, m.a(), b, m.f())
	m.r.AF = bits.Word(a, f)
	m.write(m.r.HL, turned)
	m.r.WZ = m.r.HL + 1
}

// blocks is the codes with x 2.
func (m *machine) blocks() {
	if m.z >= half || m.y < half {
		return
	}
	by := 1
	if m.q != 0 {
		by = -1
	}
	switch m.z {
	case 0:
		m.blockMove(by)
	case 1:
		m.blockFind(by)
	case 2:
		m.blockTake(by)
	case 3:
		m.blockGive(by)
	}
	if m.y >= repeating && block.Again(m.z, m.f()) {
		m.repeat()
	}
}

// repeat goes back to the instruction itself.
func (m *machine) repeat() {
	m.pause(5)
	m.r.PC -= 2
	// Moves and finds, not what goes through a port.
	if m.z == 0 || m.z == 1 {
		m.r.WZ = m.r.PC + 1
	}
}

func (m *machine) blockMove(by int) {
	b := m.read(m.r.HL)
	m.write(m.r.DE, b)
	m.pause(2)
	m.r.HL = wide.Move(m.r.HL, by)
	m.r.DE = wide.Move(m.r.DE, by)
	m.r.BC--
	m.setF(block.Move(m.a(), b, m.r.BC, m.f()))
}

func (m *machine) blockFind(by int) {
	b := m.read(m.r.HL)
	m.pause(5)
	m.r.HL = wide.Move(m.r.HL, by)
	m.r.WZ = wide.Move(m.r.WZ, by)
	m.r.BC--
	m.setF(block.Find(m.a(), b, m.r.BC, m.f()))
}

func (m *machine) blockTake(by int) {
	m.pause(1)
	b := m.in(m.r.BC)
	m.r.WZ = wide.Move(m.r.BC, by)
	left := m.lessB()
	m.write(m.r.HL, b)
	m.r.HL = wide.Move(m.r.HL, by)
	m.setF(block.Take(b, m.get(regC), left, by))
}

func (m *machine) blockGive(by int) {
	m.pause(1)
	b := m.read(m.r.HL)
	left := m.lessB()
	m.r.WZ = wide.Move(m.r.BC, by)
	m.out(m.r.BC, b)
	m.r.HL = wide.Move(m.r.HL, by)
	m.setF(block.Give(b, bits.Lo(m.r.HL), left))
}
