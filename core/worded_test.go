package core

import (
	"fmt"
	"slices"
	"testing"

	"charabanc/accept"
	"charabanc/api"
	"charabanc/cycle"
	"charabanc/regs"
)

// The chapter once more, sentence by sentence: a second reader to hold the package against.

func wordedBegins(r api.Regs, which int) Core {
	c, _, _ := accept.Next(r, which, []uint8{})
	return Core{R: r, Which: which, Got: []uint8{}, A: cycle.At{C: c, K: 0, Waited: 0}}
}

func wordedFresh(c Core) bool {
	if len(c.Got) > 0 {
		return false
	}
	if c.A.K != 0 {
		return false
	}
	return c.A.Waited == 0
}

// wordedTick tells, beside the processor, whether a byte was transferred, and whether the state was a cycle's last one.
func wordedTick(c Core, l Lines, b uint8) (Core, bool, bool) {
	if l.Reset {
		n := wordedBegins(regs.Reset(c.R), 0)
		n.Was = l.Nmi
		return n, false, false
	}
	if l.Nmi && !c.Was {
		c.Nmi = true
	}
	c.Was = l.Nmi
	if c.Off {
		c.Off = l.Bus
		return c, false, false
	}
	a, moved, last := cycle.Tick(c.A, l.Wait)
	if moved && (c.A.C.Kind == api.Write || c.A.C.Kind == api.Out) {
		c.Byte = 0
	} else if moved {
		c.Byte = b
	}
	c.A = a
	if !last {
		return c, moved, false
	}
	c.Got = slices.Concat(c.Got, []uint8{c.Byte})
	c.Byte = 0
	x, r, done := accept.Next(c.R, c.Which, c.Got)
	if !done {
		c.A = cycle.At{C: x}
	} else {
		which := accept.Which(r, c.Nmi, l.Irq)
		n := wordedBegins(r, which)
		n.Nmi, n.Was = c.Nmi && which != 1, c.Was
		c = n
	}
	if l.Bus && c.A.C.Kind != api.Inner {
		c.Off = true
	}
	return c, moved, true
}

// hold holds all that a processor answers against the second reader.
func hold(t *testing.T, c Core, l Lines, b uint8) Core {
	t.Helper()
	what := fmt.Sprintf("%s with %+v and %02x", shown(c), l, b)
	want, moved, last := wordedTick(c, l, b)
	n := tick(t, c, l, b)
	check(t, what, n, want)
	x := api.Cycle{}
	if moved {
		x = c.A.C
	}
	g := guarded(c)
	if got, asks := Asks(g, l); got != x || asks != moved {
		t.Errorf("%s: Asks is %+v, %v, want %+v, %v", what, got, asks, x, moved)
	}
	ends := last && want.A.C.Kind != api.Inner
	if got := Ends(g, l, b); got != ends {
		t.Errorf("%s: Ends is %v", what, got)
	}
	if got := Fresh(g); got != wordedFresh(c) {
		t.Errorf("%s: Fresh is %v", what, got)
	}
	checkGuard(t, what, g, c)
	return n
}

func TestP18_1AsWorded(t *testing.T) {
	c := chance(1)
	for range 3000 {
		r := c.regs()
		n := New(r)
		check(t, "New", n, wordedBegins(r, 0))
		if !Fresh(n) {
			t.Errorf("%s isn't fresh", shown(n))
		}
	}
}

// Programs of any bytes, with any lines, from New on: what is read is any byte, but prefixes are rare, and the halted go on by interrupts.
func TestP18_2AsWordedOnAnyWay(t *testing.T) {
	c := chance(2)
	for run := range 300 {
		n := New(c.regs())
		often := 2 + run%9
		for range 400 {
			n = hold(t, n, c.lines(often), c.byte())
		}
	}
}

// any is a processor that is under way somehow, of which nothing fits the rest.
func (c *chance) any() Core {
	n := Core{R: c.regs(), Which: c.below(5) - 1, Byte: c.byte(), Nmi: c.one(2), Was: c.one(2), Off: c.one(4)}
	for range c.below(4) * c.below(8) {
		b := c.byte()
		if c.one(4) {
			b = []uint8{0xcb, 0xdd, 0xed, 0xfd, 0xe3, 0x34, 0xb0, 0x76}[c.below(8)]
		}
		n.Got = append(n.Got, b)
	}
	n.A.C = api.Cycle{Kind: c.below(9), Addr: c.word(), Data: c.byte(), T: c.below(8)}
	n.A.K = c.below(9) - 1
	if c.one(2) {
		n.A.K = n.A.C.T - 1 - c.below(2)
	}
	if c.one(4) {
		n.A.C.T = c.below(36) - 1
	}
	n.A.Waited = c.below(4) * (c.below(3) - 1)
	return n
}

func TestP18_2AsWordedOnAnyCore(t *testing.T) {
	c := chance(3)
	for range 60000 {
		n := c.any()
		for range 1 + c.below(3) {
			n = hold(t, n, c.lines(3), c.byte())
		}
	}
}

// Every cycle that may be, at each of its states, with each combination of lines.
func TestP18_3AsWordedOnEachCycle(t *testing.T) {
	for kind := -1; kind <= 8; kind++ {
		for _, states := range []int{-1, 0, 1, 2, 3, 4, 5, 6, 32, 33} {
			for k := -1; k <= min(states, 6)+1; k++ {
				for _, off := range []bool{false, true} {
					for _, l := range allLines() {
						c := under(base(), 0, "34", api.Cycle{Kind: kind, Addr: 7, Data: 9, T: states}, k)
						c.Byte, c.Off = 0x11, off
						hold(t, c, l, 0x22)
					}
				}
			}
		}
	}
}
