package core

import (
	"fmt"
	"slices"
	"strings"
	"testing"

	"charabanc/accept"
	"charabanc/api"
	"charabanc/cells"
	"charabanc/cycle"
	"charabanc/step"
)

// course is an operation by chapter 13: the registers ahead of it, which one it is, what is read, its cycles, the registers behind it, and how many states it takes.
type course struct {
	from    api.Regs
	which   int
	answers []uint8
	cycles  []api.Cycle
	behind  api.Regs
	states  int
}

// courseOf asks package accept; what reads is answered by answers, and then by 0.
func courseOf(t *testing.T, r api.Regs, which int, answers []uint8) course {
	t.Helper()
	p := course{from: r, which: which, answers: answers}
	var got []uint8
	rest := answers
	for len(got) < 1000 {
		c, behind, done := accept.Next(r, which, got)
		if done {
			p.behind = behind
			if states := accept.States(r, which, answers); len(got) < 200 && p.states != states {
				t.Errorf("%d of %x: %d states, want %d", which, answers, p.states, states)
			}
			return p
		}
		b := uint8(0)
		if reads(c.Kind) && len(rest) > 0 {
			b, rest = rest[0], rest[1:]
		}
		p.cycles = append(p.cycles, c)
		p.states += c.T
		got = append(got, b)
	}
	t.Fatalf("%d of %x: no end", which, answers)
	return p
}

// words is what is seen state by state, while the lines are as told (none, behind their end), and whether the bus is let go behind it.
func (p course) words(lines []Lines) ([]string, bool) {
	var words []string
	off := false
	next := func() Lines {
		if len(words) < len(lines) {
			return lines[len(words)]
		}
		return Lines{}
	}
	for n, c := range p.cycles {
		for off {
			off = next().Bus
			words = append(words, "-")
		}
		sample := []int{0, 2, 2, 2, 3, 3, 4, 0}[c.Kind]
		within := n+1 < len(p.cycles) && p.cycles[n+1].Kind == api.Inner
		for k := 1; k <= c.T; k++ {
			for k == sample && next().Wait {
				words = append(words, "w")
			}
			word := "."
			if sample > 0 && k == sample+1 {
				word = told(c)
			}
			if k == c.T && !within {
				word += "!"
				off = next().Bus
			}
			words = append(words, word)
		}
	}
	return words, off
}

// run holds a processor that goes through the operation against it, state by state.
func (p course) run(t *testing.T, lines []Lines) {
	t.Helper()
	what := fmt.Sprintf("%d of %x", p.which, p.answers)
	words, off := p.words(lines)
	for len(lines) < len(words) {
		lines = append(slices.Clip(lines), Lines{})
	}
	lines = lines[:len(words)]
	c := Core{R: p.from, Which: p.which, A: cycle.At{C: p.cycles[0]}}
	if p.which == 0 {
		c = New(p.from)
	}
	told, n := walk(t, c, lines, p.answers)
	if want := strings.Join(words, " "); told != want {
		t.Errorf("%s: %s, want %s", what, told, want)
	}
	more := 0
	for _, word := range words {
		if word == "w" || word == "-" {
			more++
		}
	}
	if len(words) != p.states+more {
		t.Errorf("%s: %d states, %d of them waited or let go, want %d", what, len(words), more, p.states)
	}
	was, nmi := false, false
	for _, l := range lines {
		nmi, was = nmi || l.Nmi && !was, l.Nmi
	}
	which := accept.Which(p.behind, nmi, lines[len(lines)-1].Irq)
	first, _, _ := accept.Next(p.behind, which, nil)
	check(t, what, n, Core{R: p.behind, Which: which, A: cycle.At{C: first}, Was: was, Off: off})
	if !Fresh(n) {
		t.Errorf("%s isn't over: %s", what, shown(n))
	}
}

// script is any of the lines that are named, each active in one state of n.
func (c *chance) script(states, n int, letters string) []Lines {
	l := make([]Lines, states)
	for k := range l {
		x := c.lines(n)
		l[k] = Lines{
			Wait: x.Wait && strings.Contains(letters, "w"),
			Bus:  x.Bus && strings.Contains(letters, "b"),
			Irq:  x.Irq && strings.Contains(letters, "i"),
			Nmi:  x.Nmi && strings.Contains(letters, "n"),
		}
	}
	return l
}

func TestP18_4OperationsByHand(t *testing.T) {
	for _, c := range []struct {
		which  int
		lines  string
		answer string
		words  string
	}{
		{0, "", "00", ". . F0123 .!"},
		{0, "", "3e 07", ". . F0123 .! . . R0124!"},
		{0, "", "03", ". . F0123 . . .!"},
		{0, "", "02", ". . F0123 .! . . W1234=a5!"},
		{0, "", "7e 11", ". . F0123 .! . . R9abc!"},
		{0, "", "c5", ". . F0123 . .! . . W7fff=12! . . W7ffe=34!"},
		{0, "", "c1 78 56", ". . F0123 .! . . R8000! . . R8001!"},
		{0, "", "cd 34 12", ". . F0123 .! . . R0124! . . R0125 .! . . W7fff=01! . . W7ffe=26!"},
		{0, "", "18 fe", ". . F0123 .! . . R0124 . . . . .!"},
		{0, "", "20 fe", ". . F0123 .! . . R0124 . . . . .!"},
		{0, "", "28 fe", ". . F0123 .! . . R0124!"},
		{0, "", "34 41", ". . F0123 .! . . R9abc .! . . W9abc=42!"},
		{0, "", "e3 78 56", ". . F0123 .! . . R8000! . . R8001 .! . . W8001=9a! . . W8000=bc . .!"},
		{0, "", "db 10 77", ". . F0123 .! . . R0124! . . . Ia510!"},
		{0, "", "d3 10", ". . F0123 .! . . R0124! . . . Oa510=a5!"},
		{0, "", "dd 36 05 07", ". . F0123 .! . . F0124 .! . . R0125! . . R0126 . .! . . W2345=07!"},
		{0, "", "fd 7e 80 22", ". . F0123 .! . . F0124 .! . . R0125 . . . . .! . . R44e0!"},
		{0, "", "cb c6 10", ". . F0123 .! . . F0124 .! . . R9abc .! . . W9abc=11!"},
		{0, "", "dd cb 01 c6 10", ". . F0123 .! . . F0124 .! . . R0125! . . R0126 . .! . . R2341 .! . . W2341=11!"},
		{0, "", "ed b0 10", ". . F0123 .! . . F0124 .! . . R9abc! . . W5678=10 . . . . . . .!"},
		{0, "", "ed 47", ". . F0123 .! . . F0124 . .!"},
		{0, "", "dd fd dd 23", ". . F0123 .! . . F0124 .! . . F0125 .! . . F0126 . . .!"},
		{0, "", "76", ". . F0123 .!"},
		{0, "", "fb", ". . F0123 .!"},
		{1, "", "cd", ". . F0123 . .! . . W7fff=01! . . W7ffe=23!"},
		{2, "", "00", ". . . . A0123 .!"},
		{2, "", "dd", ". . . . A0123 .!"},
		{2, "", "ff", ". . . . A0123 . .! . . W7fff=01! . . W7ffe=23!"},
		// The same with states that are waited.
		{0, ". w w . w w", "00", ". w w . F0123 .!"},
		{0, ". w w", "00", ". w w . F0123 .!"},
		{0, "w . w w w", "00", ". . F0123 .!"},
		{0, ". w", "03", ". w . F0123 . . .!"},
		{0, "4*. w w w", "03", ". . F0123 . . .!"},
		{0, "9*w 99*.", "3e 07", ". w w w w w w w w . F0123 .! . . R0124!"},
		{0, "5*. w . . w w", "db 10 77", ". . F0123 .! . w . R0124! . . . Ia510!"},
		{0, "9*. w w", "d3 10", ". . F0123 .! . . R0124! . . w w . Oa510=a5!"},
		{0, "8*. w w", "d3 10", ". . F0123 .! . . R0124! . . w . Oa510=a5!"},
		{0, "6*. w w .", "02", ". . F0123 .! . . W1234=a5!"},
		{0, "5*. w w .", "02", ". . F0123 .! . w w . W1234=a5!"},
		{2, "w w w w w .", "00", ". . . w w . A0123 .!"},
		{1, ". w 5*.", "cd", ". w . F0123 . .! . . W7fff=01! . . W7ffe=23!"},
		// And with the bus asked for.
		{0, "b b b .", "3e 07", ". . F0123 .! . . R0124!"},
		{0, ". . . b", "3e 07", ". . F0123 .! - . . R0124!"},
		{0, ". . . b b b .", "3e 07", ". . F0123 .! - - - . . R0124!"},
		{0, "6*b", "3e 07", ". . F0123 .! - - - . . R0124!"},
		{0, ". . . b b", "03", ". . F0123 . . .!"},
		{0, "7*b", "c5", ". . F0123 . .! - - - . . W7fff=12! . . W7ffe=34!"},
		{0, ". . . b . . . b", "c5", ". . F0123 . .! . . W7fff=12! - . . W7ffe=34!"},
		{0, "6*. b . . . . b b", "18 fe", ". . F0123 .! . . R0124 . . . . .!"},
		{1, "99*.", "cd", ". . F0123 . .! . . W7fff=01! . . W7ffe=23!"},
		{1, "7*b .", "cd", ". . F0123 . .! - - - . . W7fff=01! . . W7ffe=23!"},
		// And with both.
		{0, ". wb wb b b wb w w w .", "3e 07", ". w w . F0123 .! - . w . R0124!"},
		{0, ". wb wb b b wb wb w w .", "3e 07", ". w w . F0123 .! - - . . R0124!"},
	} {
		r := base()
		p := courseOf(t, r, c.which, bytesOf(c.answer))
		lines := script(c.lines)
		words, _ := p.words(lines)
		if len(lines) > len(words) {
			lines = lines[:len(words)]
		}
		if got := strings.Join(words, " "); got != c.words {
			t.Errorf("%d of %s with %s: the words of chapter 13 are %s, want %s", c.which, c.answer, c.lines, got, c.words)
		}
		p.run(t, lines)
	}
}

// codes is every instruction, by the bytes ahead of which nothing stands but its prefixes.
func codes() [][]uint8 {
	var l [][]uint8
	for _, ahead := range []string{"", "cb", "ed", "dd", "fd", "dd cb 05", "fd cb 80"} {
		for code := range 256 {
			l = append(l, slices.Concat(bytesOf(ahead), []uint8{uint8(code)}))
		}
	}
	return l
}

// Of each instruction both outcomes come: with and without flags, with counters that end, and that don't.
func TestP18_4EveryInstruction(t *testing.T) {
	c := chance(4)
	for _, code := range codes() {
		for _, f := range []uint16{0, 255} {
			for _, bc := range []uint16{1, 0x100, 0x0202} {
				r := base()
				r.AF, r.BC, r.Late = 0xa500+f, bc, c.one(2)
				r.IFF1, r.Mode = c.one(2), c.below(3)
				p := courseOf(t, r, 0, slices.Concat(code, []uint8{c.byte(), c.byte(), c.byte()}))
				p.run(t, nil)
				p.run(t, c.script(60, 2+c.below(3), "wbin"))
			}
		}
		p := courseOf(t, c.regs(), 0, slices.Concat(code, []uint8{0x34, 0x12}))
		p.run(t, c.script(60, 2, "w"))
		p.run(t, c.script(60, 2, "b"))
		p.run(t, c.script(60, 3, "in"))
	}
}

func TestP18_4Interrupts(t *testing.T) {
	c := chance(5)
	for vector := range 256 {
		for mode := -1; mode <= 3; mode++ {
			for which := 1; which <= 2; which++ {
				r := c.regs()
				r.Mode = mode
				p := courseOf(t, r, which, []uint8{uint8(vector), c.byte(), c.byte(), c.byte()})
				p.run(t, nil)
				for _, letters := range []string{"w", "b", "wb", "wbin"} {
					p.run(t, c.script(40, 2+c.below(3), letters))
				}
			}
		}
	}
}

func TestP18_4Halted(t *testing.T) {
	c := chance(6)
	r := base()
	r.Halted = true
	for b := range 256 {
		p := courseOf(t, r, 0, []uint8{uint8(b)})
		if p.states != 4 || p.behind.PC != r.PC || !p.behind.Halted {
			t.Errorf("%02x: %d states, %+v", b, p.states, p.behind)
		}
		p.run(t, nil)
		p.run(t, c.script(9, 2, "wb"))
		p.run(t, c.script(9, 3, "wbin"))
	}
	// It stays so for any number of states, until an interrupt comes.
	r.IFF1, r.Mode = true, 1
	words, n := walk(t, New(r), script("400*."), slices.Repeat([]uint8{0x3c}, 100))
	if words != strings.TrimSpace(strings.Repeat(". . F0123 .! ", 100)) || n.R.PC != r.PC || !n.R.Halted || n.R.AF != r.AF || n.R.R != 105 || !Fresh(n) {
		t.Errorf("%s, %s", words, shown(n))
	}
	words, n = walk(t, n, script("4*i 13*."), nil)
	if words != ". . F0123 .! . . . . A0123 . .! . . W7fff=01! . . W7ffe=23!" || n.R.PC != 56 || n.R.Halted || n.Which != 0 {
		t.Errorf("%s, %s", words, shown(n))
	}
}

func TestP18_4PrefixesThatRepeat(t *testing.T) {
	c := chance(7)
	for _, times := range []int{1, 2, 3, 7, 8, 9, 50, 201, 300} {
		for _, prefix := range []uint8{0xdd, 0xfd} {
			for _, code := range []string{"00", "3e 07", "34 05 41", "36 05 41", "e5", "cb 05 c6 41", "ed b0 41", "cd 34 12", "dd fd dd 23", "76"} {
				p := courseOf(t, base(), 0, append(slices.Repeat([]uint8{prefix}, times), bytesOf(code)...))
				p.run(t, nil)
				p.run(t, c.script(9*times+40, 3, "wb"))
			}
		}
	}
	// Ahead of a code behind prefixes, nothing is accepted.
	words, n := walk(t, New(api.Regs{IFF1: true, Mode: 1}), script("40*in"), slices.Repeat([]uint8{0xdd}, 10))
	if strings.Count(words, "F") != 10 || n.Which != 0 || len(n.Got) != 10 || n.R.PC != 0 || !n.Nmi {
		t.Errorf("%s, %s", words, shown(n))
	}
}

// A program on a memory goes as package step runs it, operation by operation, whatever is waited and let go.
func TestP18_4ProgramsAsSteps(t *testing.T) {
	c := chance(8)
	for run := range 40 {
		w := step.World{R: c.regs()}
		for k := range 600 {
			w.M = append(w.M, api.Cell{Addr: w.R.PC + uint16(k), Data: c.byte()})
		}
		w.M = cells.Make(w.M)
		letters := []string{"", "w", "b", "wbin", "in"}[run%5]
		runProgram(t, &c, w, letters)
	}
}

func runProgram(t *testing.T, c *chance, w step.World, letters string) {
	t.Helper()
	n := New(w.R)
	for range 100 {
		vector := c.byte()
		behind, _, states := step.Step(w, n.Which, vector)
		m, took := w.M, 0
		for k := 0; k < 9999 && (k == 0 || !Fresh(n) || n.Off); k++ {
			l := c.script(1, 4, letters)[0]
			var b uint8
			b, m = onBus(n, l, m, vector)
			was := n
			n = Tick(n, l, b)
			if !was.Off && n.A.Waited <= was.A.Waited {
				took++
			}
		}
		if took != states {
			t.Errorf("%d states, want %d", took, states)
		}
		checkRegs(t, shown(n), n.R, behind.R)
		if !slices.Equal(m, behind.M) {
			t.Fatal("the memory is another one")
		}
		w = behind
	}
}

// onBus is the byte on the bus in a state, and the memory behind it; ports tell nothing.
func onBus(n Core, l Lines, m []api.Cell, vector uint8) (uint8, []api.Cell) {
	x, _ := Asks(n, l)
	switch x.Kind {
	case api.Fetch, api.Read:
		return cells.Get(m, x.Addr), m
	case api.Write:
		return 0x99, cells.Put(m, x.Addr, x.Data)
	case api.Ack:
		return vector, m
	}
	return 255, m
}
