package trace

import (
	"encoding/hex"
	"fmt"
	"slices"
	"strings"
	"testing"

	"charabanc/api"
	"charabanc/step"
)

// base is registers of which no two words are equal, behind an instruction that lets no interrupt in.
func base() api.Regs {
	return api.Regs{
		AF: 0xa500, BC: 0x1234, DE: 0x5678, HL: 0x9abc,
		AF2: 0x0102, BC2: 0x0304, DE2: 0x0506, HL2: 0x0708,
		IX: 0x2340, IY: 0x4560, SP: 0x8000, PC: 0x0100, WZ: 0x7777,
		I: 0x3f, R: 0x05, Late: true,
	}
}

// shown is the registers' text.
func shown(r api.Regs) string {
	s := fmt.Sprintf("af=%04xh bc=%04xh de=%04xh hl=%04xh ix=%04xh iy=%04xh sp=%04xh pc=%04xh i=%02xh r=%02xh im%d",
		r.AF, r.BC, r.DE, r.HL, r.IX, r.IY, r.SP, r.PC, r.I, r.R, r.Mode)
	for _, latch := range []struct {
		set  bool
		name string
	}{{r.IFF1, " iff1"}, {r.IFF2, " iff2"}, {r.Halted, " halt"}} {
		if latch.set {
			s += latch.name
		}
	}
	return s
}

// bytesOf is the bytes of digits of 16. "9*dd" is nine of them.
func bytesOf(digits string) []uint8 {
	var l []uint8
	for word := range strings.FieldsSeq(digits) {
		times := 1
		if count, rest, ok := strings.Cut(word, "*"); ok {
			fmt.Sscan(count, &times)
			word = rest
		}
		b, err := hex.DecodeString(word)
		if err != nil {
			panic(err)
		}
		l = append(l, slices.Repeat(b, times)...)
	}
	return l
}

// laid is a memory with bytes from an address on, and others all round them.
func laid(at uint16, b []uint8, around uint8) []api.Cell {
	var m [65536]uint8
	for k := range 24 {
		m[at-8+uint16(k)] = around
	}
	for k, v := range b {
		m[at+uint16(k)] = v
	}
	var l []api.Cell
	for at, v := range m {
		if v != 0 {
			l = append(l, api.Cell{Addr: uint16(at), Data: v})
		}
	}
	return l
}

// forms is a memory, and lists of cells that are none, but stand for it.
func forms(l []api.Cell) [][]api.Cell {
	back := slices.Clone(l)
	slices.Reverse(back)
	var stale, empty []api.Cell
	for _, c := range l {
		stale = append(stale, api.Cell{Addr: c.Addr, Data: c.Data ^ 0x3c})
		empty = append(empty, c, api.Cell{Addr: c.Addr + 1, Data: 9}, api.Cell{Addr: c.Addr + 1})
	}
	return [][]api.Cell{
		l,
		back,
		slices.Concat(stale, l),
		slices.Concat(stale, back, l),
		slices.Concat([]api.Cell{{Addr: 0x7001}, {Addr: 0x7000}, {Addr: 0x7001}}, empty, back),
	}
}

// What stands in lists behind their ends.
var (
	spareCell = api.Cell{Addr: 0x0100, Data: 0xc7}
	spareByte = uint8(0xc7)
)

// guarded is a copy of a list, with spare things behind its end.
func guarded[E any](l []E, spare E) []E {
	whole := append(slices.Clone(l), spare, spare, spare, spare, spare, spare)
	return whole[:len(l):len(whole)]
}

// intact tells whether a guarded list, and what stands behind it, is what it was.
func intact[E comparable](l, was []E, spare E) bool {
	behind := l[len(l):cap(l)]
	return slices.Equal(l, was) && !slices.ContainsFunc(behind, func(e E) bool { return e != spare })
}

// guard is a copy of a world, with spare things behind the ends of its lists.
func guard(w step.World) step.World {
	return step.World{R: w.R, M: guarded(w.M, spareCell), Ports: guarded(w.Ports, spareByte)}
}

// checkGuard fails unless a guarded world, and what stands behind its lists, is what it was.
func checkGuard(t *testing.T, what string, g, was step.World) {
	t.Helper()
	if g.R != was.R || !intact(g.M, was.M, spareCell) || !intact(g.Ports, was.Ports, spareByte) {
		t.Errorf("%s: an argument, or what stands behind it, was changed", what)
	}
}

// checkCode holds Code and Line against bytes and an instruction's text.
func checkCode(t *testing.T, what string, w step.World, code []uint8, name string) {
	t.Helper()
	g := guard(w)
	if got := Code(g); !slices.Equal(got, code) {
		t.Errorf("%s: code %x, want %x", what, got, code)
	}
	want := fmt.Sprintf("%04xh: %s | %s", w.R.PC, name, shown(w.R))
	if got := Line(g); got != want {
		t.Errorf("%s: line\n%s, want\n%s", what, got, want)
	}
	checkGuard(t, what, g, w)
}

// checkRun holds Run against lines.
func checkRun(t *testing.T, what string, w step.World, n int, want []string) {
	t.Helper()
	what = fmt.Sprintf("%s, Run of %d", what, n)
	g := guard(w)
	got := Run(g, n)
	checkGuard(t, what, g, w)
	if len(got) != len(want) {
		t.Errorf("%s: %d lines, want %d", what, len(got), len(want))
		return
	}
	for k := range want {
		if got[k] != want[k] {
			t.Errorf("%s: line %d is\n%s, want\n%s", what, k, got[k], want[k])
			return
		}
	}
}

// chance is numbers that look like any, the same ones each time.
type chance uint32

func (c *chance) byte() uint8 {
	*c = *c*1664525 + 1013904223
	return uint8(*c >> 24)
}

func (c *chance) word() uint16 { return uint16(c.byte())*256 + uint16(c.byte()) }

// regs is registers of any kind.
func (c *chance) regs() api.Regs {
	edges := []uint16{0, 1, 2, 0x100, 0x1234, 65528, 65534, 65535}
	return api.Regs{
		AF: c.word(), BC: c.word(), DE: c.word(), HL: c.word(), IX: c.word(), IY: c.word(), WZ: c.word(),
		AF2: c.word(), BC2: c.word(), DE2: c.word(), HL2: c.word(),
		SP: edges[c.byte()>>5], PC: edges[c.byte()>>5], I: c.byte(), R: c.byte(),
		IFF1: c.byte() < 128, IFF2: c.byte() < 128, Late: c.byte() < 128, Halted: c.byte() < 16, Mode: int(c.byte()>>5) - 2,
	}
}

// program is a world with any code in so many bytes all round PC; of its bytes some, in 256, are prefixes DD and FD.
func (c *chance) program(size int, some uint8) step.World {
	w := step.World{R: c.regs(), Ports: []uint8{c.byte(), c.byte(), c.byte()}[:c.byte()>>6]}
	for k := range size {
		b := c.byte()
		if c.byte() < some {
			b = 0xdd + b&0x20
		}
		if b == 0x76 && c.byte() < 192 {
			b = 0xed
		}
		w.M = append(w.M, api.Cell{Addr: w.R.PC + uint16(k-size/2), Data: b})
	}
	return w
}
