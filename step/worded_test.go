package step

import (
	"fmt"
	"slices"
	"testing"

	"charabanc/accept"
	"charabanc/api"
)

// worded is Step by the document's words, with a memory byte by byte: a second reader, which what Step answers is held against. The cycles are those of package accept; a change of the image shows in the caller's.
func worded(r api.Regs, m *image, ports []uint8, which int, vector uint8) (api.Regs, []uint8, []api.Cycle, int) {
	var l []api.Cycle
	var got []uint8
	states := 0
	for range 201 {
		c, after, done := accept.Next(r, which, got)
		if done {
			return after, ports, l, states
		}
		if len(got) == 200 {
			break
		}
		answer := uint8(0)
		if c.Kind == 1 || c.Kind == 2 {
			answer = m[c.Addr]
			c.Data = answer
		}
		if c.Kind == 4 && len(ports) == 0 {
			answer, c.Data = 255, 255
		} else if c.Kind == 4 {
			answer, c.Data, ports = ports[0], ports[0], ports[1:]
		}
		if c.Kind == 6 {
			answer, c.Data = vector, vector
		}
		if c.Kind == 3 {
			m[c.Addr] = c.Data
		}
		got = append(got, answer)
		states += c.T
		if c.Kind != 7 {
			l = append(l, c)
		}
	}
	return r, ports, l, states
}

// hold holds Step against the second reader.
func hold(t *testing.T, what string, w World, which int, vector uint8) World {
	t.Helper()
	what = fmt.Sprintf("%s, %d and %02x", what, which, vector)
	m := imageOf(w.M)
	r, ports, wl, wstates := worded(w.R, m, w.Ports, which, vector)
	g := guard(w)
	got, l, states := Step(g, which, vector)
	checkGuard(t, what, g, w)
	checkWorld(t, what, got, World{R: r, M: m.memory(), Ports: ports})
	if !slices.Equal(l, wl) || states != wstates {
		t.Errorf("%s: %s in %d states, want %s in %d", what, tale(l), states, tale(wl), wstates)
	}
	return got
}

// chance is numbers that look like any, the same ones each time.
type chance uint32

func (c *chance) byte() uint8 {
	*c = *c*1664525 + 1013904223
	return uint8(*c >> 24)
}

func (c *chance) word() uint16 { return uint16(c.byte())*256 + uint16(c.byte()) }

// world is one with code at PC, some 80 other cells in any order (some twice, some of them 0), and up to 3 bytes for ports.
func (c *chance) world(code ...uint8) World {
	edges := []uint16{0, 1, 2, 0x100, 0x1234, 65533, 65534, 65535}
	r := api.Regs{
		AF: c.word(), BC: c.word(), DE: c.word(), HL: c.word(), IX: c.word(), IY: c.word(), WZ: c.word(),
		AF2: c.word(), BC2: c.word(), DE2: c.word(), HL2: c.word(),
		SP: edges[c.byte()%8], PC: edges[c.byte()%8], I: c.byte(), R: c.byte(),
		IFF1: c.byte()%2 == 0, IFF2: c.byte()%2 == 0, Late: c.byte()%2 == 0, Halted: c.byte()%16 == 0, Mode: int(c.byte()%5) - 1,
	}
	var l []api.Cell
	for range 40 {
		at := c.word()
		l = append(l, api.Cell{Addr: at, Data: c.byte()}, api.Cell{Addr: r.SP + at%4, Data: c.byte()})
	}
	for _, w := range []uint16{r.BC, r.DE, r.HL, r.IX, r.IY} {
		l = append(l, api.Cell{Addr: w, Data: c.byte()}, api.Cell{Addr: w, Data: c.byte() & 0xf0})
	}
	for k, b := range code {
		l = append(l, api.Cell{Addr: r.PC + uint16(k), Data: b})
	}
	ports := []uint8{c.byte(), c.byte(), c.byte()}
	return World{R: r, M: l, Ports: ports[:c.byte()%4]}
}

func TestP15_1EveryCodeOfEveryPlane(t *testing.T) {
	c := chance(15)
	for _, ahead := range [][]uint8{nil, {0xcb}, {0xed}, {0xdd}, {0xfd}, {0xdd, 0xcb, 5}, {0xfd, 0xcb, 0x80}, {0xdd, 0xed}} {
		for code := range 256 {
			for k := range 3 {
				w := c.world(append(slices.Clone(ahead), uint8(code), c.byte(), c.byte(), c.byte())...)
				hold(t, fmt.Sprintf("%x %02x", ahead, code), w, []int{0, -1, 3}[k], c.byte())
			}
		}
	}
}

func TestP15_1EveryVector(t *testing.T) {
	c := chance(51)
	for vector := range 256 {
		for range 4 {
			w := c.world(c.byte(), c.byte(), c.byte())
			hold(t, "any", w, 1, uint8(vector))
			for mode := range 4 {
				w.R.Mode = mode
				hold(t, "any", w, 2, uint8(vector))
			}
		}
	}
}

// program is a world with any code in so many bytes all round PC.
func (c *chance) program(size int) World {
	w := c.world()
	w.R.Halted = false
	for k := range size {
		b := c.byte()
		if b == 0x76 && c.byte()%4 != 0 {
			b = 0xed
		}
		w.M = append(w.M, api.Cell{Addr: w.R.PC + uint16(k-size/2), Data: b})
	}
	return w
}

func TestP15_2RunsAndUntilsAreSteps(t *testing.T) {
	c := chance(7)
	for k := range 14 {
		size := 4096
		if k < 2 {
			size = 65536
		}
		w := c.program(size)
		m := imageOf(w.M)
		r, ports, states := w.R, w.Ports, 0
		halted := false
		for n := range 201 {
			here := World{R: r, M: m.memory(), Ports: ports}
			if n%25 == 0 || n < 3 {
				checkRun(t, "any program", w, n, here, states)
				if !halted {
					checkUntil(t, "any program", w, w.R.PC-1, n, here, n)
				}
			}
			halted = halted || r.Halted || r.PC == w.R.PC-1
			var k int
			r, ports, _, k = worded(r, m, ports, 0, 0)
			states += k
		}
	}
}

func TestP15_1CyclesThatNobodyWaitsFor(t *testing.T) {
	w := World{R: base(), M: memoryOf("0100: cd 34 12")}
	for n := range 6 {
		v := World{R: w.R, M: slices.Clone(w.M)}
		var l []api.Cycle
		for c := range v.step(0, 0) {
			l = append(l, c)
			if len(l) == n+1 {
				break
			}
		}
		if len(l) != n+1 {
			t.Errorf("%d cycles, want %d", len(l), n+1)
		}
		checkRegs(t, "behind a break", v.R, w.R)
	}
}

func TestP15_4TwoPartsAreOne(t *testing.T) {
	c := chance(4)
	for _, w := range []World{c.program(3000), c.program(3000), c.program(3000), pushing(0), idle(0), endless(), {}} {
		for _, n := range [][2]int{{0, 0}, {0, 1}, {1, 0}, {1, 1}, {3, 7}, {50, 50}, {0, 200}, {200, 0}, {199, 1}, {1, 199}, {100, 100}} {
			whole, states := Run(w, n[0]+n[1])
			one, first := Run(w, n[0])
			two, second := Run(one, n[1])
			what := fmt.Sprintf("%d and %d", n[0], n[1])
			checkWorld(t, what, two, whole)
			if first+second != states {
				t.Errorf("%s: %d and %d states, want %d", what, first, second, states)
			}
			whole, steps := Until(w, 0x4321, n[0]+n[1])
			one, first = Until(w, 0x4321, n[0])
			two, second = Until(one, 0x4321, n[1])
			checkWorld(t, what, two, whole)
			if first+second != steps {
				t.Errorf("%s: %d and %d steps, want %d", what, first, second, steps)
			}
		}
	}
}

func TestP15_4RunsAreSteps(t *testing.T) {
	c := chance(9)
	for _, w := range []World{c.program(3000), c.program(3000), pushing(0), idle(0)} {
		v, total := w, 0
		for n := 1; n <= 60; n++ {
			next, _, states := Step(v, 0, 0)
			v, total = next, total+states
			if n%10 == 0 || n < 4 {
				checkRun(t, "steps", w, n, v, total)
			}
		}
	}
}

func TestP15_4MemoryChangesOnlyWhereItWasWritten(t *testing.T) {
	c := chance(14)
	for k := range 1500 {
		w := c.world(c.byte(), c.byte(), c.byte(), c.byte())
		if k%3 == 0 {
			w = c.world(0xed, 0xa0|c.byte()&0x1b)
		}
		v, l, _ := Step(w, k%3, c.byte())
		want := imageOf(w.M)
		for _, cycle := range l {
			if cycle.Kind == api.Write {
				want[cycle.Addr] = cycle.Data
			}
		}
		checkCells(t, tale(l), v.M, want.memory())
	}
}
