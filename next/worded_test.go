package next

import (
	"charabanc/api"
	"charabanc/block"
	"charabanc/flags"
	"charabanc/logic"
	"charabanc/shift"
	"charabanc/sum"
	"charabanc/wide"
)

// worded is an instruction, executed in one go by the document's words, code by code: a second reader, which what Next answers is held against.
type worded struct {
	r      api.Regs
	feed   func(c api.Cycle) uint8 // the answer to a cycle
	cycles []api.Cycle
	got    []uint8
}

// word executes the instruction at r.
func word(r api.Regs, feed func(c api.Cycle) uint8) *worded {
	w := &worded{r: r, feed: feed}
	if r.Halted {
		w.do(api.Cycle{Kind: api.Fetch, Addr: r.PC, T: 4})
		w.refresh()
		return w
	}
	w.r.Late = false
	w.first(w.fetch())
	return w
}

// wordAfter executes the instruction whose first byte is code.
func wordAfter(r api.Regs, code uint8, feed func(c api.Cycle) uint8) *worded {
	w := &worded{r: r, feed: feed}
	w.r.Late = false
	w.first(code)
	return w
}

func (w *worded) do(c api.Cycle) uint8 {
	b := w.feed(c)
	w.cycles = append(w.cycles, c)
	w.got = append(w.got, b)
	return b
}

func (w *worded) refresh() { w.r.R = w.r.R/128*128 + (w.r.R%128+1)%128 }

func (w *worded) fetch() uint8 {
	b := w.do(api.Cycle{Kind: api.Fetch, Addr: w.r.PC, T: 4})
	w.r.PC++
	w.refresh()
	return b
}

func (w *worded) load(at uint16) uint8 {
	return w.do(api.Cycle{Kind: api.Read, Addr: at, T: 3})
}

func (w *worded) store(at uint16, b uint8) {
	w.do(api.Cycle{Kind: api.Write, Addr: at, Data: b, T: 3})
}

func (w *worded) inner(states int) { w.do(api.Cycle{Kind: api.Inner, T: states}) }

func (w *worded) imm() uint8 {
	b := w.load(w.r.PC)
	w.r.PC++
	return b
}

func (w *worded) imm2() uint16 {
	lo := w.imm()
	return uint16(w.imm())*256 + uint16(lo)
}

func (w *worded) load2(at uint16) uint16 {
	lo := w.load(at)
	return uint16(w.load(at+1))*256 + uint16(lo)
}

func (w *worded) pushed(v uint16) {
	w.store(w.r.SP-1, uint8(v/256))
	w.store(w.r.SP-2, uint8(v%256))
	w.r.SP -= 2
}

func (w *worded) popped() uint16 {
	v := w.load2(w.r.SP)
	w.r.SP += 2
	return v
}

func (w *worded) a() uint8     { return uint8(w.r.AF / 256) }
func (w *worded) f() uint8     { return uint8(w.r.AF % 256) }
func (w *worded) setA(a uint8) { w.r.AF = uint16(a)*256 + w.r.AF%256 }
func (w *worded) setF(f uint8) { w.r.AF = w.r.AF/256*256 + uint16(f) }
func (w *worded) setAF(a, f uint8) {
	w.setA(a)
	w.setF(f)
}

// reg is register n, where H and L are those of hl.
func (w *worded) reg(n int, hl *uint16) uint8 {
	switch n {
	case 0:
		return uint8(w.r.BC / 256)
	case 1:
		return uint8(w.r.BC % 256)
	case 2:
		return uint8(w.r.DE / 256)
	case 3:
		return uint8(w.r.DE % 256)
	case 4:
		return uint8(*hl / 256)
	case 5:
		return uint8(*hl % 256)
	case 7:
		return w.a()
	}
	panic("no register")
}

func (w *worded) setReg(n int, hl *uint16, b uint8) {
	high := func(p *uint16) { *p = uint16(b)*256 + *p%256 }
	low := func(p *uint16) { *p = *p/256*256 + uint16(b) }
	switch n {
	case 0:
		high(&w.r.BC)
	case 1:
		low(&w.r.BC)
	case 2:
		high(&w.r.DE)
	case 3:
		low(&w.r.DE)
	case 4:
		high(hl)
	case 5:
		low(hl)
	case 7:
		w.setA(b)
	default:
		panic("no register")
	}
}

// holds is a condition, by the bits of F.
func (w *worded) holds(n int) bool {
	f := w.f()
	return []bool{f&64 == 0, f&64 != 0, f&1 == 0, f&1 != 0, f&4 == 0, f&4 != 0, f&128 == 0, f&128 != 0}[n]
}

func moved(v uint16, e uint8) uint16 {
	if e < 128 {
		return v + uint16(e)
	}
	return v - (256 - uint16(e))
}

// first goes on behind the first byte.
func (w *worded) first(code uint8) {
	hl := &w.r.HL
	for code == 0xdd || code == 0xfd {
		hl = &w.r.IX
		if code == 0xfd {
			hl = &w.r.IY
		}
		code = w.fetch()
	}
	switch {
	case code == 0xcb && hl == &w.r.HL:
		w.cb(w.fetch())
	case code == 0xcb:
		w.r.WZ = moved(*hl, w.imm())
		code = w.imm()
		w.inner(2)
		w.cbNear(code)
	case code == 0xed:
		w.ed(w.fetch())
	case code < 0x40:
		w.quarter0(hl, code)
	case code == 0x76:
		w.r.Halted = true
	case code < 0x80:
		w.quarter1(hl, code)
	case code < 0xc0:
		w.alu(int(code)/8%8, w.source(hl, int(code)%8))
	default:
		w.quarter3(hl, code)
	}
}

// m is where the byte at M is; near IX or IY, the displacement is read.
func (w *worded) m(hl *uint16) uint16 {
	if hl == &w.r.HL {
		return w.r.HL
	}
	w.r.WZ = moved(*hl, w.imm())
	w.inner(5)
	return w.r.WZ
}

// source is register n, or the byte at M.
func (w *worded) source(hl *uint16, n int) uint8 {
	if n == 6 {
		return w.load(w.m(hl))
	}
	return w.reg(n, hl)
}

func (w *worded) relative(e uint8, holds bool) {
	if holds {
		w.inner(5)
		w.r.PC = moved(w.r.PC, e)
		w.r.WZ = w.r.PC
	}
}

func (w *worded) quarter0(hl *uint16, code uint8) {
	r := &w.r
	switch code {
	case 0x00:
	case 0x08:
		r.AF, r.AF2 = r.AF2, r.AF
	case 0x10:
		w.inner(1)
		r.BC -= 256
		e := w.imm()
		w.relative(e, r.BC/256 != 0)
	case 0x18:
		w.relative(w.imm(), true)
	case 0x20, 0x28, 0x30, 0x38:
		w.relative(w.imm(), w.holds(int(code-0x20)/8))
	case 0x01:
		r.BC = w.imm2()
	case 0x11:
		r.DE = w.imm2()
	case 0x21:
		*hl = w.imm2()
	case 0x31:
		r.SP = w.imm2()
	case 0x09:
		w.addTo(hl, r.BC)
	case 0x19:
		w.addTo(hl, r.DE)
	case 0x29:
		w.addTo(hl, *hl)
	case 0x39:
		w.addTo(hl, r.SP)
	case 0x03:
		w.inner(2)
		r.BC++
	case 0x13:
		w.inner(2)
		r.DE++
	case 0x23:
		w.inner(2)
		*hl++
	case 0x33:
		w.inner(2)
		r.SP++
	case 0x0b:
		w.inner(2)
		r.BC--
	case 0x1b:
		w.inner(2)
		r.DE--
	case 0x2b:
		w.inner(2)
		*hl--
	case 0x3b:
		w.inner(2)
		r.SP--
	default:
		w.quarter0More(hl, code)
	}
}

func (w *worded) addTo(hl *uint16, v uint16) {
	w.inner(7)
	w.r.WZ = *hl + 1
	s, f := wide.Add(*hl, v, w.f())
	*hl = s
	w.setF(f)
}

func (w *worded) quarter0More(hl *uint16, code uint8) {
	r := &w.r
	switch code {
	case 0x02:
		w.storeA(r.BC)
	case 0x12:
		w.storeA(r.DE)
	case 0x0a:
		w.loadA(r.BC)
	case 0x1a:
		w.loadA(r.DE)
	case 0x22:
		at := w.imm2()
		w.store(at, uint8(*hl%256))
		w.store(at+1, uint8(*hl/256))
		r.WZ = at + 1
	case 0x2a:
		at := w.imm2()
		*hl = w.load2(at)
		r.WZ = at + 1
	case 0x32:
		w.storeA(w.imm2())
	case 0x3a:
		w.loadA(w.imm2())
	case 0x07, 0x0f, 0x17, 0x1f:
		w.setAF(shift.Acc(int(code)/8, w.a(), w.f()))
	case 0x27:
		w.setAF(logic.Daa(w.a(), w.f()))
	case 0x2f:
		w.setAF(logic.Cpl(w.a(), w.f()))
	case 0x37:
		w.setF(logic.Scf(w.a(), w.f()))
	case 0x3f:
		w.setF(logic.Ccf(w.a(), w.f()))
	case 0x36:
		w.storeNumber(hl)
	case 0x06, 0x0e, 0x16, 0x1e, 0x26, 0x2e, 0x3e:
		w.setReg(int(code)/8, hl, w.imm())
	case 0x34, 0x35:
		at := w.m(hl)
		b, f := w.one(code, w.load(at))
		w.inner(1)
		w.store(at, b)
		w.setF(f)
	default: // INC and DEC
		b, f := w.one(code, w.reg(int(code)/8, hl))
		w.setReg(int(code)/8, hl, b)
		w.setF(f)
	}
}

func (w *worded) storeNumber(hl *uint16) {
	if hl == &w.r.HL {
		w.store(*hl, w.imm())
		return
	}
	w.r.WZ = moved(*hl, w.imm())
	n := w.imm()
	w.inner(2)
	w.store(w.r.WZ, n)
}

func (w *worded) one(code, b uint8) (uint8, uint8) {
	if code%8 == 4 {
		return sum.Inc(b, w.f())
	}
	return sum.Dec(b, w.f())
}

func (w *worded) storeA(at uint16) {
	w.store(at, w.a())
	w.r.WZ = uint16(w.a())*256 + (at+1)%256
}

func (w *worded) loadA(at uint16) {
	w.setA(w.load(at))
	w.r.WZ = at + 1
}

func (w *worded) quarter1(hl *uint16, code uint8) {
	to, from := int(code-0x40)/8, int(code)%8
	switch {
	case from == 6:
		w.setReg(to, &w.r.HL, w.load(w.m(hl)))
	case to == 6:
		at := w.m(hl)
		w.store(at, w.reg(from, &w.r.HL))
	default:
		w.setReg(to, hl, w.reg(from, hl))
	}
}

func (w *worded) alu(kind int, b uint8) {
	a, f := w.a(), w.f()
	switch kind {
	case 0:
		w.setAF(sum.Add(a, b, false))
	case 1:
		w.setAF(sum.Add(a, b, f%2 == 1))
	case 2:
		w.setAF(sum.Sub(a, b, false))
	case 3:
		w.setAF(sum.Sub(a, b, f%2 == 1))
	case 4:
		w.setAF(logic.And(a, b))
	case 5:
		w.setAF(logic.Xor(a, b))
	case 6:
		w.setAF(logic.Or(a, b))
	case 7:
		w.setF(sum.Cmp(a, b))
	}
}

func (w *worded) call(at uint16, holds bool) {
	w.r.WZ = at
	if holds {
		w.inner(1)
		w.pushed(w.r.PC)
		w.r.PC = at
	}
}

func (w *worded) quarter3(hl *uint16, code uint8) {
	r := &w.r
	kind := int(code-0xc0) / 8
	switch code {
	case 0xc0, 0xc8, 0xd0, 0xd8, 0xe0, 0xe8, 0xf0, 0xf8:
		w.inner(1)
		if w.holds(kind) {
			r.PC = w.popped()
			r.WZ = r.PC
		}
	case 0xc2, 0xca, 0xd2, 0xda, 0xe2, 0xea, 0xf2, 0xfa:
		r.WZ = w.imm2()
		if w.holds(kind) {
			r.PC = r.WZ
		}
	case 0xc4, 0xcc, 0xd4, 0xdc, 0xe4, 0xec, 0xf4, 0xfc:
		w.call(w.imm2(), w.holds(kind))
	case 0xcd:
		w.call(w.imm2(), true)
	case 0xc6, 0xce, 0xd6, 0xde, 0xe6, 0xee, 0xf6, 0xfe:
		w.alu(kind, w.imm())
	case 0xc7, 0xcf, 0xd7, 0xdf, 0xe7, 0xef, 0xf7, 0xff:
		w.inner(1)
		w.pushed(r.PC)
		r.PC = uint16(code - 0xc7)
		r.WZ = r.PC
	case 0xc1:
		r.BC = w.popped()
	case 0xd1:
		r.DE = w.popped()
	case 0xe1:
		*hl = w.popped()
	case 0xf1:
		r.AF = w.popped()
	case 0xc5:
		w.inner(1)
		w.pushed(r.BC)
	case 0xd5:
		w.inner(1)
		w.pushed(r.DE)
	case 0xe5:
		w.inner(1)
		w.pushed(*hl)
	case 0xf5:
		w.inner(1)
		w.pushed(r.AF)
	default:
		w.quarter3More(hl, code)
	}
}

func (w *worded) quarter3More(hl *uint16, code uint8) {
	r := &w.r
	switch code {
	case 0xc9:
		r.PC = w.popped()
		r.WZ = r.PC
	case 0xd9:
		r.BC, r.BC2 = r.BC2, r.BC
		r.DE, r.DE2 = r.DE2, r.DE
		r.HL, r.HL2 = r.HL2, r.HL
	case 0xe9:
		r.PC = *hl
	case 0xf9:
		w.inner(2)
		r.SP = *hl
	case 0xc3:
		r.PC = w.imm2()
		r.WZ = r.PC
	case 0xd3:
		n := w.imm()
		w.do(api.Cycle{Kind: api.Out, Addr: uint16(w.a())*256 + uint16(n), Data: w.a(), T: 4})
		r.WZ = uint16(w.a())*256 + (uint16(n)+1)%256
	case 0xdb:
		at := uint16(w.a())*256 + uint16(w.imm())
		w.setA(w.do(api.Cycle{Kind: api.In, Addr: at, T: 4}))
		r.WZ = at + 1
	case 0xe3:
		v := w.load2(r.SP)
		w.inner(1)
		w.store(r.SP+1, uint8(*hl/256))
		w.store(r.SP, uint8(*hl%256))
		w.inner(2)
		*hl = v
		r.WZ = v
	case 0xeb:
		r.DE, r.HL = r.HL, r.DE
	case 0xf3:
		r.IFF1, r.IFF2 = false, false
	case 0xfb:
		r.IFF1, r.IFF2, r.Late = true, true, true
	default:
		panic("a prefix")
	}
}

// changed is what a code behind CB makes of a byte; false: it makes nothing of it, but sets the flags.
func (w *worded) changed(code, b, lines uint8) (uint8, bool) {
	kind := int(code) / 8 % 8
	switch code / 64 {
	case 0:
		c, f := shift.Do(kind, b, w.f())
		w.setF(f)
		return c, true
	case 1:
		w.setF(shift.Bit(kind, b, lines, w.f()))
		return 0, false
	case 2:
		return b &^ (1 << kind), true
	}
	return b | 1<<kind, true
}

func (w *worded) cb(code uint8) {
	n := int(code) % 8
	if n != 6 {
		b := w.reg(n, &w.r.HL)
		if c, ok := w.changed(code, b, b); ok {
			w.setReg(n, &w.r.HL, c)
		}
		return
	}
	b := w.load(w.r.HL)
	w.inner(1)
	if c, ok := w.changed(code, b, uint8(w.r.WZ/256)); ok {
		w.store(w.r.HL, c)
	}
}

func (w *worded) cbNear(code uint8) {
	b := w.load(w.r.WZ)
	w.inner(1)
	c, ok := w.changed(code, b, uint8(w.r.WZ/256))
	if !ok {
		return
	}
	w.store(w.r.WZ, c)
	if code%8 != 6 {
		w.setReg(int(code)%8, &w.r.HL, c)
	}
}

func (w *worded) ed(code uint8) {
	r := &w.r
	switch code {
	case 0x40, 0x48, 0x50, 0x58, 0x60, 0x68, 0x70, 0x78:
		b := w.do(api.Cycle{Kind: api.In, Addr: r.BC, T: 4})
		r.WZ = r.BC + 1
		w.setF(flags.Even(b) + w.f()%2)
		if code != 0x70 {
			w.setReg(int(code-0x40)/8, &r.HL, b)
		}
	case 0x41, 0x49, 0x51, 0x59, 0x61, 0x69, 0x79:
		w.do(api.Cycle{Kind: api.Out, Addr: r.BC, Data: w.reg(int(code-0x41)/8, &r.HL), T: 4})
		r.WZ = r.BC + 1
	case 0x71:
		w.do(api.Cycle{Kind: api.Out, Addr: r.BC, T: 4})
		r.WZ = r.BC + 1
	case 0x42, 0x52, 0x62, 0x72, 0x4a, 0x5a, 0x6a, 0x7a:
		w.edWide(code)
	case 0x43, 0x53, 0x63, 0x73:
		at, v := w.imm2(), *w.edPair(code)
		w.store(at, uint8(v%256))
		w.store(at+1, uint8(v/256))
		r.WZ = at + 1
	case 0x4b, 0x5b, 0x6b, 0x7b:
		at := w.imm2()
		*w.edPair(code) = w.load2(at)
		r.WZ = at + 1
	case 0x44, 0x4c, 0x54, 0x5c, 0x64, 0x6c, 0x74, 0x7c:
		w.setAF(sum.Neg(w.a()))
	case 0x45, 0x4d, 0x55, 0x5d, 0x65, 0x6d, 0x75, 0x7d:
		r.PC = w.popped()
		r.WZ, r.IFF1 = r.PC, r.IFF2
	case 0x46, 0x4e, 0x66, 0x6e:
		r.Mode = 0
	case 0x56, 0x76:
		r.Mode = 1
	case 0x5e, 0x7e:
		r.Mode = 2
	default:
		w.edMore(code)
	}
}

func (w *worded) edPair(code uint8) *uint16 {
	return []*uint16{&w.r.BC, &w.r.DE, &w.r.HL, &w.r.SP}[(code-0x40)/16]
}

func (w *worded) edWide(code uint8) {
	w.inner(7)
	w.r.WZ = w.r.HL + 1
	do := wide.Sbc
	if code%16 == 0xa {
		do = wide.Adc
	}
	v, f := do(w.r.HL, *w.edPair(code), w.f())
	w.r.HL = v
	w.setF(f)
}

func (w *worded) edMore(code uint8) {
	r := &w.r
	switch code {
	case 0x47:
		w.inner(1)
		r.I = w.a()
	case 0x4f:
		w.inner(1)
		r.R = w.a()
	case 0x57, 0x5f:
		w.inner(1)
		b := r.I
		if code == 0x5f {
			b = r.R
		}
		f := flags.Result(b) + w.f()%2
		if r.IFF2 {
			f += 4
		}
		w.setAF(b, f)
	case 0x67, 0x6f:
		b := w.load(r.HL)
		w.inner(4)
		a, b, f := shift.Digit(code == 0x67, w.a(), b, w.f())
		w.setAF(a, f)
		w.store(r.HL, b)
		r.WZ = r.HL + 1
	case 0xa0, 0xa8, 0xb0, 0xb8:
		w.blockMove(code)
	case 0xa1, 0xa9, 0xb1, 0xb9:
		w.blockFind(code)
	case 0xa2, 0xaa, 0xb2, 0xba:
		w.blockIn(code)
	case 0xa3, 0xab, 0xb3, 0xbb:
		w.blockOut(code)
	}
}

// down tells whether a block instruction goes to lower places, again whether it may be repeated.
func down(code uint8) bool  { return code&8 != 0 }
func again(code uint8) bool { return code >= 0xb0 }

// by is v, moved by a block instruction.
func by(code uint8, v uint16) uint16 {
	if down(code) {
		return v - 1
	}
	return v + 1
}

func (w *worded) blockMove(code uint8) {
	r := &w.r
	b := w.load(r.HL)
	w.store(r.DE, b)
	w.inner(2)
	r.HL, r.DE = by(code, r.HL), by(code, r.DE)
	r.BC--
	w.setF(block.Move(w.a(), b, r.BC, w.f()))
	if again(code) && r.BC != 0 {
		w.inner(5)
		r.PC -= 2
		r.WZ = r.PC + 1
	}
}

func (w *worded) blockFind(code uint8) {
	r := &w.r
	b := w.load(r.HL)
	w.inner(5)
	r.HL, r.WZ = by(code, r.HL), by(code, r.WZ)
	r.BC--
	w.setF(block.Find(w.a(), b, r.BC, w.f()))
	if again(code) && r.BC != 0 && b != w.a() {
		w.inner(5)
		r.PC -= 2
		r.WZ = r.PC + 1
	}
}

func (w *worded) blockIn(code uint8) {
	r := &w.r
	w.inner(1)
	b := w.do(api.Cycle{Kind: api.In, Addr: r.BC, T: 4})
	r.WZ = by(code, r.BC)
	r.BC -= 256
	w.store(r.HL, b)
	r.HL = by(code, r.HL)
	one := 1
	if down(code) {
		one = -1
	}
	w.setF(block.Take(b, uint8(r.BC%256), uint8(r.BC/256), one))
	if again(code) && r.BC/256 != 0 {
		w.inner(5)
		r.PC -= 2
	}
}

func (w *worded) blockOut(code uint8) {
	r := &w.r
	w.inner(1)
	b := w.load(r.HL)
	r.BC -= 256
	r.WZ = by(code, r.BC)
	w.do(api.Cycle{Kind: api.Out, Addr: r.BC, Data: b, T: 4})
	r.HL = by(code, r.HL)
	w.setF(block.Give(b, uint8(r.HL%256), uint8(r.BC/256)))
	if again(code) && r.BC/256 != 0 {
		w.inner(5)
		r.PC -= 2
	}
}
