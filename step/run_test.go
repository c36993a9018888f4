package step

import (
	"fmt"
	"math"
	"testing"

	"charabanc/api"
)

// counts is numbers of steps: below 0, 0, some, 200 and beyond.
var counts = []int{math.MinInt, -200, -2, -1, 0, 1, 2, 3, 10, 100, 199, 200, 201, 202, 255, 256, 1000, 65536, math.MaxInt32, math.MaxInt}

// done is how many of them are performed.
func done(n int) int {
	if n < 0 {
		return 0
	}
	if n > 200 {
		return 200
	}
	return n
}

// checkRun holds Run against a world and states.
func checkRun(t *testing.T, what string, w World, n int, want World, states int) {
	t.Helper()
	what = fmt.Sprintf("%s, Run of %d", what, n)
	g := guard(w)
	got, k := Run(g, n)
	checkGuard(t, what, g, w)
	checkWorld(t, what, got, want)
	if k != states {
		t.Errorf("%s: %d states, want %d", what, k, states)
	}
}

// checkUntil holds Until against a world and steps.
func checkUntil(t *testing.T, what string, w World, pc uint16, most int, want World, steps int) {
	t.Helper()
	what = fmt.Sprintf("%s, Until %04x, %d", what, pc, most)
	g := guard(w)
	got, k := Until(g, pc, most)
	checkGuard(t, what, g, w)
	checkWorld(t, what, got, want)
	if k != steps {
		t.Errorf("%s: %d steps, want %d", what, k, steps)
	}
}

// idle is a world that only NOPs follow, behind so many of them.
func idle(n int) World {
	r := base()
	r.PC, r.R = 65500+uint16(n), uint8((5+n)%128)
	r.Late = n == 0
	return World{R: r, M: memoryOf("1234: 5a 00 66"), Ports: []uint8{1, 2}}
}

func TestP15_2RunOfNops(t *testing.T) {
	for _, l := range forms(idle(0).M) {
		w := idle(0)
		w.M = l
		for _, n := range counts {
			checkRun(t, "NOPs", w, n, idle(done(n)), 4*done(n))
		}
	}
}

// pushing is a world in a loop that takes a byte, stores it and counts on (14 bytes of code at 0100), behind so many rounds. A round is 6 steps.
func pushing(n int) World {
	m := new(image).written("0100: db 10 77 23 d3 11 05 18 f7")
	given := bytesOf("01 02 00 04 05")
	r := base()
	r.Late = n == 0
	r.PC, r.R = 0x100, uint8((5+6*n)%128)
	for k := range n {
		a := uint8(255)
		if k < len(given) {
			a = given[k]
		}
		m[0x9abc+k] = a
		r.BC -= 0x100
		r.HL++
		b := uint8(r.BC >> 8)
		f := b&0xa8 | 2
		if b == 0 {
			f |= 0x40
		}
		if b&15 == 15 {
			f |= 0x10
		}
		if b == 0x7f {
			f |= 4
		}
		r.AF, r.WZ = uint16(a)*256+uint16(f), 0x100
	}
	return World{R: r, M: m.memory(), Ports: given[min(n, len(given)):]}
}

func TestP15_2RunOfALoop(t *testing.T) {
	const states = 11 + 7 + 6 + 11 + 4 + 12
	for n := range 34 {
		for _, l := range forms(pushing(0).M) {
			w := pushing(0)
			w.M = l
			checkRun(t, "a loop", w, 6*n, pushing(n), states*n)
		}
		checkUntil(t, "a loop", pushing(0), 0x9000, 6*n, pushing(n), 6*n)
	}
	// The last round that 200 steps begin has IN and LD alone.
	want := pushing(33)
	want.R.PC, want.R.R = 0x103, (5+200)%128
	want.R.AF, want.R.WZ = 255*256+want.R.AF%256, 256*(want.R.AF/256)+0x11
	m := imageOf(want.M)
	m[0x9abc+33] = 255
	want.M = m.memory()
	for _, n := range []int{200, 201, math.MaxInt} {
		checkRun(t, "a loop", pushing(0), n, want, states*33+11+7)
		checkUntil(t, "a loop", pushing(0), 0x9000, n, want, 200)
	}
}

func TestP15_2WhatWasStoredIsExecuted(t *testing.T) {
	r := api.Regs{PC: 0x100, HL: 0x103}
	w := World{R: r, M: memoryOf("0100: 36 3e 00 00 5a")}
	after := memoryOf("0100: 36 3e 00 3e 5a")
	checkRun(t, "its own code", w, 1, World{R: api.Regs{PC: 0x102, HL: 0x103, R: 1}, M: after}, 10)
	checkRun(t, "its own code", w, 2, World{R: api.Regs{PC: 0x103, HL: 0x103, R: 2}, M: after}, 14)
	checkRun(t, "its own code", w, 3, World{R: api.Regs{PC: 0x105, HL: 0x103, R: 3, AF: 0x5a00}, M: after}, 21)
}

func TestP15_2RunOfAHaltedProcessor(t *testing.T) {
	r := base()
	r.Halted, r.R = true, 250
	w := World{R: r, M: memoryOf("0100: 3e 07"), Ports: []uint8{9}}
	for _, n := range counts {
		want := w
		want.R.R = 128 + uint8((122+done(n))%128)
		checkRun(t, "halted", w, n, want, 4*done(n))
	}
	w.R.Halted = false
	w.M = memoryOf("0101: 76 3e 07")
	for _, n := range counts {
		want := w
		if n > 0 {
			want.R.PC, want.R.Late = 0x100+min(uint16(done(n)), 2), false
			want.R.Halted = n > 1
			want.R.R = 128 + uint8((122+done(n))%128)
		}
		checkRun(t, "a halt", w, n, want, 4*done(n))
	}
}

// endless is a world with more prefixes than a step has cycles.
func endless() World {
	return World{R: base(), M: prefixes(new(image), 0x100, 220, "00").memory(), Ports: []uint8{1, 2}}
}

func TestP15_2EndlessPrefixes(t *testing.T) {
	w := endless()
	for _, n := range []int{-1, 0, 1, 2, 200, 201} {
		checkRun(t, "prefixes", w, n, w, 800*done(n))
		checkUntil(t, "prefixes", w, 0x101, n, w, done(n))
		checkUntil(t, "prefixes", w, 0x100, n, w, 0)
	}
}

func TestP15_2NoStepsMakeAMemory(t *testing.T) {
	r := base()
	for k, l := range forms(memoryOf("0000: 01 00 02; 1234: 5a; ffff: ff")) {
		w := World{R: r, M: l, Ports: []uint8{3, 0, 5}}
		want := World{R: r, M: memoryOf("0000: 01 00 02; 1234: 5a; ffff: ff"), Ports: w.Ports}
		what := fmt.Sprint("list ", k)
		for _, n := range []int{math.MinInt, -1, 0} {
			checkRun(t, what, w, n, want, 0)
			checkUntil(t, what, w, 5, n, want, 0)
		}
		checkUntil(t, what, w, 0x100, 9, want, 0)
		w.R.Halted, want.R.Halted = true, true
		checkUntil(t, what, w, 5, 9, want, 0)
	}
	for _, l := range [][]api.Cell{nil, {}, {{Addr: 5}}, {{Addr: 5, Data: 1}, {Addr: 5}}} {
		checkRun(t, "no memory", World{M: l}, 0, World{}, 0)
		checkUntil(t, "no memory", World{M: l}, 0, 9, World{}, 0)
	}
}

func TestP15_2UntilAnAddress(t *testing.T) {
	for _, most := range counts {
		for _, steps := range []int{0, 1, 2, 3, 10, 100, 199, 200, 201, 255, 300, 65535} {
			k := done(min(most, steps))
			pc := 65500 + uint16(steps)
			checkUntil(t, "NOPs", idle(0), pc, most, idle(k), k)
		}
	}
	for _, l := range forms(idle(0).M) {
		w := idle(0)
		w.M = l
		checkUntil(t, "NOPs", w, 0, 200, idle(36), 36)
	}
}

func TestP15_2UntilAnAddressWithinAnInstruction(t *testing.T) {
	w := World{M: memoryOf("0000: 3e 07 01 34 12")}
	for _, pc := range []uint16{1, 3, 4} {
		want := World{R: api.Regs{PC: 9, R: 6, AF: 0x700, BC: 0x1234}, M: w.M}
		checkUntil(t, "a program", w, pc, 6, want, 6)
	}
	want := World{R: api.Regs{PC: 5, R: 2, AF: 0x700, BC: 0x1234}, M: w.M}
	checkUntil(t, "a program", w, 5, 200, want, 2)
}

func TestP15_2UntilALoopEnds(t *testing.T) {
	// DJNZ to itself: PC is there already, or comes when B is 0.
	w := World{R: api.Regs{PC: 0x100, BC: 0x0500}, M: memoryOf("0100: 10 fe")}
	checkUntil(t, "DJNZ", w, 0x100, 99, w, 0)
	checkUntil(t, "DJNZ", w, 0x102, 99, World{R: api.Regs{PC: 0x102, R: 5, WZ: 0x100}, M: w.M}, 5)
	checkUntil(t, "DJNZ", w, 0x102, 5, World{R: api.Regs{PC: 0x102, R: 5, WZ: 0x100}, M: w.M}, 5)
	checkUntil(t, "DJNZ", w, 0x102, 4, World{R: api.Regs{PC: 0x100, R: 4, WZ: 0x100, BC: 0x0100}, M: w.M}, 4)
	w.R.BC = 0
	checkUntil(t, "DJNZ", w, 0x102, 999, World{R: api.Regs{PC: 0x100, R: 72, WZ: 0x100, BC: 56 * 256}, M: w.M}, 200)
}

func TestP15_2UntilAHalt(t *testing.T) {
	w := World{M: memoryOf("0000: 3e 07 00 76 3e 09"), Ports: []uint8{1}}
	want := World{R: api.Regs{PC: 4, R: 3, AF: 0x700, Halted: true}, M: w.M, Ports: w.Ports}
	for _, most := range []int{3, 4, 200, math.MaxInt} {
		checkUntil(t, "a halt", w, 0x1234, most, want, 3)
		checkUntil(t, "a halt", w, 4, most, want, 3)
		checkUntil(t, "a halt", w, 6, most, want, 3)
	}
	checkUntil(t, "a halt", w, 4, 2, World{R: api.Regs{PC: 3, R: 2, AF: 0x700}, M: w.M, Ports: w.Ports}, 2)
	w.R.Halted = true
	for _, most := range counts {
		checkUntil(t, "halted", w, 0x1234, most, w, 0)
		checkUntil(t, "halted", w, 0, most, w, 0)
	}
}

func TestP15_2NoInterruptIsTaken(t *testing.T) {
	// Step of 0 and 0, whatever the latches say.
	for n := range 8 {
		r := api.Regs{IFF1: n&1 != 0, IFF2: n&2 != 0, Late: n&4 != 0, Mode: n % 3}
		want := r
		want.PC, want.R, want.Late = 3, 3, false
		checkRun(t, "NOPs", World{R: r}, 3, World{R: want}, 12)
		checkUntil(t, "NOPs", World{R: r}, 3, 9, World{R: want}, 3)
	}
}

func TestP15_3Sent(t *testing.T) {
	var all []api.Cycle
	for kind := -1; kind <= 9; kind++ {
		all = append(all, api.Cycle{Kind: kind, Addr: uint16(kind), Data: uint8(kind + 1), T: kind + 2})
	}
	for i, c := range []struct {
		l    []api.Cycle
		want []api.Cell
	}{
		{nil, nil},
		{[]api.Cycle{}, nil},
		{all, []api.Cell{{Addr: 5, Data: 6}}},
		{[]api.Cycle{{}}, nil},
		{[]api.Cycle{{Kind: api.Out}}, []api.Cell{{}}},
		{[]api.Cycle{{Kind: 5, Addr: 9, Data: 7, T: -1}, {Kind: 3, Addr: 8, Data: 6, T: 3}}, []api.Cell{{Addr: 9, Data: 7}}},
		{[]api.Cycle{{Kind: 4, Addr: 9, Data: 7, T: 4}, {Kind: 5, Addr: 65535, Data: 255, T: 4}}, []api.Cell{{Addr: 65535, Data: 255}}},
		// In their order, with bytes of 0, and with an address twice.
		{
			[]api.Cycle{{Kind: 5, Addr: 9, Data: 7}, {Kind: 1}, {Kind: 5, Addr: 2}, {Kind: 7}, {Kind: 5, Addr: 9, Data: 1}, {Kind: 5, Addr: 9, Data: 7}},
			[]api.Cell{{Addr: 9, Data: 7}, {Addr: 2}, {Addr: 9, Data: 1}, {Addr: 9, Data: 7}},
		},
		{[]api.Cycle{{Kind: 261, Addr: 1, Data: 1}, {Kind: -5, Addr: 1, Data: 1}, {Kind: math.MaxInt}, {Kind: math.MinInt}}, nil},
	} {
		g := guarded(c.l, spareCycle)
		got := Sent(g)
		checkCells(t, fmt.Sprint("Sent of list ", i), got, c.want)
		if !intact(g, c.l, spareCycle) {
			t.Errorf("list %d, or what stands behind it, was changed", i)
		}
	}
}

func TestP15_3SentOfSteps(t *testing.T) {
	w := World{R: base(), M: memoryOf("0100: d3 10 ed 79 ed 71 3e 07 ed a3; 9abc: 5a")}
	for _, want := range [][]api.Cell{{{Addr: 0xa510, Data: 0xa5}}, {{Addr: 0x1234, Data: 0xa5}}, {{Addr: 0x1234}}, nil, {{Addr: 0x1134, Data: 0x5a}}} {
		next, l, _ := Step(w, 0, 0)
		checkCells(t, "Sent of "+tale(l), Sent(l), want)
		w = next
	}
}
