package next

import (
	"charabanc/api"
	"charabanc/bits"
	"charabanc/shift"
)

// behindCB is the quarters of the codes behind CB, with one of them at hand.
func (m *machine) behindCB() [4]func() {
	m.split(m.codeBehindCB())
	return [4]func(){m.shifted, m.tested, m.cleared, m.raised}
}

// codeBehindCB is fetched; but behind DD CB and FD CB it is read, and the displacement ahead of it.
func (m *machine) codeBehindCB() uint8 {
	if m.plane == api.Plain {
		return m.fetch()
	}
	m.aim()
	code := m.number()
	m.pause(2)
	return code
}

func (m *machine) shifted() {
	b, f := shift.Do(m.y, m.operand(), m.f())
	m.setF(f)
	m.result(b)
}

func (m *machine) tested() {
	b := m.operand()
	lines := b
	if m.inMemory() {
		lines = bits.Hi(m.r.WZ)
	}
	m.setF(shift.Bit(m.y, b, lines, m.f()))
}

func (m *machine) cleared() { m.result(bits.With(m.operand(), m.y, false)) }
func (m *machine) raised()  { m.result(bits.With(m.operand(), m.y, true)) }

// inMemory tells whether the operand is the byte at M.
func (m *machine) inMemory() bool { return m.near || m.z == memory }

// operand is the byte that the code works on.
func (m *machine) operand() uint8 {
	if !m.inMemory() {
		return m.get(m.z)
	}
	b := m.read(m.spot)
	m.pause(1)
	return b
}

// result puts a byte where the operand was; near IX or IY, the register that the code names gets it, too.
func (m *machine) result(b uint8) {
	if m.inMemory() {
		m.write(m.spot, b)
	}
	if m.z != memory {
		m.put(m.z, b)
	}
}
