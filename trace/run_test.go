package trace

import (
	"fmt"
	"math"
	"slices"
	"testing"

	"charabanc/api"
	"charabanc/step"
)

// counts is numbers of lines: below 0, 0, some, 200 and beyond.
var counts = []int{math.MinInt, math.MinInt32, -200, -2, -1, 0, 1, 2, 3, 10, 100, 199, 200, 201, 202, 255, 256, 257, 456, 1000, 65536, math.MaxInt32, math.MaxInt - 1, math.MaxInt}

// told is how many lines a number of them yields.
func told(n int) int {
	if n < 1 {
		return 0
	}
	if n > 200 {
		return 200
	}
	return n
}

// turn is a line: its address, its instruction, R, and which other registers the step ahead of it has changed.
type turn struct {
	pc   uint16
	name string
	r    uint8
	set  func(r *api.Regs)
}

// linesOf is the lines of turns, of a processor that begins with registers.
func linesOf(r api.Regs, turns []turn) []string {
	var l []string
	for _, c := range turns {
		r.PC, r.R = c.pc, c.r
		if c.set != nil {
			c.set(&r)
		}
		l = append(l, fmt.Sprintf("%04xh: %s | %s", c.pc, c.name, shown(r)))
	}
	return l
}

// checkTurns holds Run, of each number of lines up to theirs, against turns, for all lists that stand for the memory.
func checkTurns(t *testing.T, what string, w step.World, turns []turn) {
	t.Helper()
	want := linesOf(w.R, turns)
	for k, l := range forms(w.M) {
		w.M = l
		for n := range len(want) + 1 {
			checkRun(t, fmt.Sprintf("%s (list %d)", what, k), w, n, want[:n])
		}
	}
}

func TestP16_2Counts(t *testing.T) {
	for _, l := range [][]api.Cell{nil, {}, laid(0x9000, bytesOf("5a 00 66"), 0xff)} {
		w := step.World{R: base(), M: l, Ports: []uint8{1, 2}}
		w.R.PC = 65436
		var turns []turn
		for k := range 200 {
			turns = append(turns, turn{pc: 65436 + uint16(k), name: "nop", r: uint8((5 + k) % 128)})
		}
		want := linesOf(w.R, turns)
		for _, n := range counts {
			checkRun(t, "NOPs", w, n, want[:told(n)])
		}
	}
}

func TestP16_2ALoopOfMoreThan200Lines(t *testing.T) {
	w := step.World{R: base(), M: laid(0x100, bytesOf("23 18 fd"), 0)}
	var turns []turn
	for k := range 100 {
		turns = append(turns,
			turn{0x100, "inc hl", uint8((5 + 2*k) % 128), nil},
			turn{0x101, "jr $-1", uint8((6 + 2*k) % 128), func(r *api.Regs) { r.HL++ }})
	}
	want := linesOf(w.R, turns)
	for _, n := range counts {
		checkRun(t, "a loop", w, n, want[:told(n)])
	}
}

func TestP16_4EachLineShowsWhatTheStepAheadOfItLeft(t *testing.T) {
	w := step.World{R: base(), M: laid(0x100, bytesOf("db 10 77 23 d3 11 05 18 f7"), 0), Ports: []uint8{0x01}}
	checkTurns(t, "a loop", w, []turn{
		{0x100, "in a,(10h)", 5, nil},
		{0x102, "ld (hl),a", 6, func(r *api.Regs) { r.AF = 0x0100 }},
		{0x103, "inc hl", 7, nil},
		{0x104, "out (11h),a", 8, func(r *api.Regs) { r.HL = 0x9abd }},
		{0x106, "dec b", 9, nil},
		{0x107, "jr $-7", 10, func(r *api.Regs) { r.BC, r.AF = 0x1134, 0x0102 }},
		{0x100, "in a,(10h)", 11, nil},
		// The ports have nothing more to tell.
		{0x102, "ld (hl),a", 12, func(r *api.Regs) { r.AF = 0xff02 }},
		{0x103, "inc hl", 13, nil},
	})
	w.M = laid(0x100, bytesOf("cd 06 01 f1 00 00 d9 08 dd 21 34 12 fd 23 e5 c9"), 0)
	checkTurns(t, "a call", w, []turn{
		{0x100, "call 0106h", 5, nil},
		{0x106, "exx", 6, func(r *api.Regs) { r.SP = 0x7ffe }},
		{0x107, "ex af,af'", 7, func(r *api.Regs) { r.BC, r.DE, r.HL = 0x0304, 0x0506, 0x0708 }},
		{0x108, "ld ix,1234h", 8, func(r *api.Regs) { r.AF = 0x0102 }},
		{0x10c, "inc iy", 10, func(r *api.Regs) { r.IX = 0x1234 }},
		{0x10e, "push hl", 12, func(r *api.Regs) { r.IY = 0x4561 }},
		{0x10f, "ret", 13, func(r *api.Regs) { r.SP = 0x7ffc }},
		{0x708, "nop", 14, func(r *api.Regs) { r.SP = 0x7ffe }},
	})
}

func TestP16_4BlocksAreLinesOfTheirOwn(t *testing.T) {
	w := step.World{R: base(), M: laid(0x100, bytesOf("ed b0 76"), 0)}
	w.R.BC, w.R.AF = 3, 0
	moved := func(r *api.Regs) { r.HL, r.DE, r.BC, r.AF = r.HL+1, r.DE+1, r.BC-1, 4 }
	checkTurns(t, "ldir", w, []turn{
		{0x100, "ldir", 5, nil},
		{0x100, "ldir", 7, moved},
		{0x100, "ldir", 9, moved},
		{0x102, "halt", 11, func(r *api.Regs) { moved(r); r.AF = 0 }},
	})
}

func TestP16_2InterruptsPlayNoPart(t *testing.T) {
	w := step.World{R: base(), M: laid(0x100, bytesOf("fb ed 5e 00 00 f3 ed 47 76 3e 07"), 0)}
	w.R.AF = 0x2500
	checkTurns(t, "latches", w, []turn{
		{0x100, "ei", 5, nil},
		{0x101, "im 2", 6, func(r *api.Regs) { r.IFF1, r.IFF2 = true, true }},
		{0x103, "nop", 8, func(r *api.Regs) { r.Mode = 2 }},
		{0x104, "nop", 9, nil},
		{0x105, "di", 10, nil},
		{0x106, "ld i,a", 11, func(r *api.Regs) { r.IFF1, r.IFF2 = false, false }},
		{0x108, "halt", 13, func(r *api.Regs) { r.I = 0x25 }},
		// A halted processor stays where it is, and its line tells what it would run.
		{0x109, "ld a,07h", 14, func(r *api.Regs) { r.Halted = true }},
		{0x109, "ld a,07h", 15, nil},
		{0x109, "ld a,07h", 16, nil},
	})
}

func TestP16_2AHaltedProcessor(t *testing.T) {
	w := step.World{R: base(), M: laid(0x100, bytesOf("dd 36 05 07"), 0xff), Ports: []uint8{9}}
	w.R.Halted, w.R.R = true, 250
	var turns []turn
	for k := range 200 {
		turns = append(turns, turn{0x100, "ld (ix+5),07h", 128 + uint8((122+k)%128), nil})
	}
	want := linesOf(w.R, turns)
	for _, n := range counts {
		checkRun(t, "halted", w, n, want[:told(n)])
	}
}

func TestP16_2TheProgramChangesItself(t *testing.T) {
	w := step.World{R: base(), M: laid(0x100, bytesOf("36 3e 00 00 5a"), 0)}
	w.R.HL = 0x103
	checkTurns(t, "its own code", w, []turn{
		{0x100, "ld (hl),3eh", 5, nil},
		{0x102, "nop", 6, nil},
		{0x103, "ld a,5ah", 7, nil},
		{0x105, "nop", 8, func(r *api.Regs) { r.AF = 0x5a00 }},
	})
	// A NOP becomes a prefix, and a NOP again.
	w.M = laid(0xfffe, bytesOf("36 dd 00 21 34 12 36 00 18 f8"), 0)
	w.R.PC, w.R.HL = 0xfffe, 0
	checkTurns(t, "a prefix", w, []turn{
		{0xfffe, "ld (hl),ddh", 5, nil},
		{0x0000, "ld ix,1234h", 6, nil},
		{0x0004, "ld (hl),00h", 8, func(r *api.Regs) { r.IX = 0x1234 }},
		{0x0006, "jr $-6", 9, nil},
		{0x0000, "nop", 10, nil},
		{0x0001, "ld hl,1234h", 11, nil},
		{0x0004, "ld (hl),00h", 12, func(r *api.Regs) { r.HL = 0x1234 }},
	})
	// What CALL pushes is the code that it calls.
	w.M = laid(0x3e3e, bytesOf("cd 3e 00"), 0)
	w.R.PC, w.R.SP = 0x3e3e, 0x0040
	checkTurns(t, "what is pushed", w, []turn{
		{0x3e3e, "call 003eh", 5, nil},
		{0x003e, "ld b,c", 6, func(r *api.Regs) { r.SP = 0x3e }},
		{0x003f, "ld a,00h", 7, func(r *api.Regs) { r.BC = 0x3434 }},
		{0x0041, "nop", 8, func(r *api.Regs) { r.AF = 0x0000 }},
	})
}

func TestP16_2EndlessPrefixes(t *testing.T) {
	w := step.World{R: base(), M: laid(0x100, bytesOf("250*dd"), 0), Ports: []uint8{1, 2}}
	var turns []turn
	for range 200 {
		turns = append(turns, turn{0x100, "..", 5, nil})
	}
	want := linesOf(w.R, turns)
	for _, n := range counts {
		checkRun(t, "prefixes", w, n, want[:told(n)])
	}
	// These end: a NOP behind eight prefixes is too long to be told, one behind seven isn't.
	w.M = laid(0x100, bytesOf("8*dd 00 7*dd 00 76"), 0)
	checkTurns(t, "9 bytes and 8", w, []turn{
		{0x100, "..", 5, nil},
		{0x109, "nop", 14, nil},
		{0x111, "halt", 22, nil},
	})
}

func TestP16_2AStepThatDoesNotEndLeavesWhatItStored(t *testing.T) {
	// LDIR stores LD E,D in place of the first prefix, and then has one cycle more than a step has.
	w := step.World{R: base(), M: laid(0x100, bytesOf("195*dd ed b0"), 0)}
	w.M = append(w.M, api.Cell{Addr: 0x9abc, Data: 0x5a})
	w.R.DE = 0x100
	checkTurns(t, "ldir", w, []turn{
		{0x100, "..", 5, nil},
		{0x100, "ld e,d", 5, nil},
		{0x101, "..", 6, func(r *api.Regs) { r.DE = 0x101 }},
	})
}

func TestP16_2AnyPrograms(t *testing.T) {
	c := chance(16)
	for k := range 32 {
		w := c.program(400, uint8(8*k))
		var want []string
		v := w
		for range 200 {
			want = append(want, Line(v))
			v, _, _ = step.Step(v, 0, 0)
		}
		for _, n := range []int{-1, 0, 1, 2, 57, 199, 200, 201} {
			checkRun(t, fmt.Sprintf("program %d", k), w, n, want[:told(n)])
		}
	}
}

func TestP16_4LinesAreThoseOfRuns(t *testing.T) {
	c := chance(4)
	for k := range 12 {
		w := c.program(400, uint8(20*k))
		l := Run(w, 200)
		for n := 0; n < 200; n += 1 + n/3 {
			v, _ := step.Run(w, n)
			_, _, registers := cutLine(l[n])
			if registers != shown(v.R) || l[n] != Line(v) {
				t.Errorf("program %d: line %d is\n%s, want\n%s", k, n, l[n], Line(v))
			}
			// The lines from there on are those of the world that is there.
			checkRun(t, "from there on", v, 200-n, l[n:])
		}
	}
}

func TestP16_2LinesThatNobodyWaitsFor(t *testing.T) {
	c := chance(2)
	w := c.program(300, 20)
	all := lines(w)
	want := Run(w, 20)
	for n := 1; n <= 20; n++ {
		var l []string
		for line := range all {
			l = append(l, line)
			if len(l) == n {
				break
			}
		}
		if !slices.Equal(l, want[:n]) {
			t.Errorf("%d lines: %q, want %q", n, l, want[:n])
		}
	}
}
