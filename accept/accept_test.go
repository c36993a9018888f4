package accept

import (
	"fmt"
	"slices"
	"testing"

	"charabanc/api"
	"charabanc/next"
	"charabanc/times"
)

func TestP13_1Which(t *testing.T) {
	for _, c := range []struct {
		nmi, irq, iff1, late bool
		want                 int
	}{
		{false, false, false, false, 0},
		{false, false, false, true, 0},
		{false, false, true, false, 0},
		{false, false, true, true, 0},
		{false, true, false, false, 0},
		{false, true, false, true, 0},
		{false, true, true, false, 2},
		{false, true, true, true, 0},
		{true, false, false, false, 1},
		{true, false, false, true, 1},
		{true, false, true, false, 1},
		{true, false, true, true, 1},
		{true, true, false, false, 1},
		{true, true, false, true, 1},
		{true, true, true, false, 1},
		{true, true, true, true, 1},
	} {
		// IFF2, Halted and all else play no part.
		for n := range 8 {
			r := api.Regs{IFF1: c.iff1, Late: c.late, IFF2: n&1 != 0, Halted: n&2 != 0}
			if n&4 != 0 {
				r.AF, r.PC, r.SP, r.I, r.R, r.Mode = 65535, 65535, 65535, 255, 255, -1
			}
			if got := Which(r, c.nmi, c.irq); got != c.want {
				t.Errorf("%+v of %+v: %d", c, r, got)
			}
		}
	}
}

func TestP13_2OtherNumbersAreInstructions(t *testing.T) {
	for _, which := range neither {
		for n := range 16 {
			for _, digits := range []string{"00", "3e 07", "76", "fb", "f3", "ff", "cb c7", "dd 36 05 07", "cd 34 12", "ed 46", "ed b0 5a", "ed 45 34 12", "db 10 5a"} {
				r := base()
				r.Halted, r.Late, r.IFF1, r.IFF2 = n&1 != 0, n&2 != 0, n&4 != 0, n&8 != 0
				r.Mode = n % 3
				answers := bytesOf(digits)
				wl, ws := play(t, func(got []uint8) (api.Cycle, api.Regs, bool) { return next.Next(r, got) }, answers, 0x5a)
				l, s := play(t, of(r, which), answers, 0x5a)
				if tale(l) != tale(wl) {
					t.Errorf("%d of %s: %s, want %s", which, digits, tale(l), tale(wl))
				}
				check(t, digits, s, ws)
				states, _ := next.Takes(r, answers)
				if got := States(r, which, answers); got != states {
					t.Errorf("%d of %s: %d states, want %d", which, digits, got, states)
				}
			}
		}
	}
}

func TestP13_2InstructionsByHand(t *testing.T) {
	for _, which := range neither {
		at5 := api.Regs{PC: 5, Late: true, IFF1: true}
		if c, s, done := Next(at5, which, nil); c != (api.Cycle{Kind: api.Fetch, Addr: 5, T: 4}) || s != (api.Regs{}) || done {
			t.Error(which, c, s, done)
		}
		if c, s, done := Next(at5, which, []uint8{0x3e}); c != (api.Cycle{Kind: api.Read, Addr: 6, T: 3}) || s != (api.Regs{}) || done {
			t.Error(which, c, s, done)
		}
		if c, s, done := Next(at5, which, []uint8{0x3e, 7}); c != (api.Cycle{}) || s != (api.Regs{PC: 7, R: 1, AF: 0x700, IFF1: true}) || !done {
			t.Error(which, c, s, done)
		}
		halted := api.Regs{PC: 5, R: 127, Halted: true, IFF1: true}
		if c, s, done := Next(halted, which, []uint8{0x3e}); c != (api.Cycle{}) || s != (api.Regs{PC: 5, Halted: true, IFF1: true}) || !done {
			t.Error(which, c, s, done)
		}
	}
}

// to is PC and WZ behind an interrupt, and SP.
func to(pc, sp uint16) func(r *api.Regs) {
	return func(r *api.Regs) { r.PC, r.WZ, r.SP = pc, pc, sp }
}

// stood is PC and SP ahead of it.
func stood(pc, sp uint16) func(r *api.Regs) {
	return func(r *api.Regs) { r.PC, r.SP = pc, sp }
}

func TestP13_2NonMaskable(t *testing.T) {
	for _, mode := range modes() {
		with := func(f func(r *api.Regs)) func(r *api.Regs) {
			return func(r *api.Regs) {
				r.Mode = mode
				if f != nil {
					f(r)
				}
			}
		}
		runAll(t, []row{
			{with(nil), 1, "00", "F0123 1 W7fff=01 W7ffe=23", to(102, 0x7ffe)},
			{with(stood(5, 2)), 1, "00", "F0005 1 W0001=00 W0000=05", to(102, 0)},
			{with(stood(0, 0)), 1, "00", "F0000 1 Wffff=00 Wfffe=00", to(102, 65534)},
			{with(stood(1, 1)), 1, "00", "F0001 1 W0000=00 Wffff=01", to(102, 65535)},
			{with(stood(2, 65534)), 1, "00", "F0002 1 Wfffd=00 Wfffc=02", to(102, 65532)},
			{with(stood(65534, 65535)), 1, "00", "Ffffe 1 Wfffe=ff Wfffd=fe", to(102, 65533)},
			{with(stood(65535, 0)), 1, "00", "Fffff 1 Wffff=ff Wfffe=ff", to(102, 65534)},
			{with(func(r *api.Regs) { r.IFF1, r.IFF2 = false, true }), 1, "00", "F0123 1 W7fff=01 W7ffe=23", to(102, 0x7ffe)},
			{with(func(r *api.Regs) { r.IFF1, r.IFF2 = true, false }), 1, "00", "F0123 1 W7fff=01 W7ffe=23", to(102, 0x7ffe)},
		})
	}
}

func TestP13_2WhatANonMaskableFetchesPlaysNoPart(t *testing.T) {
	for b := range 256 {
		row{nil, 1, fmt.Sprintf("%02x", b), "F0123 1 W7fff=01 W7ffe=23", to(102, 0x7ffe)}.run(t)
	}
}

func TestP13_2Mode0(t *testing.T) {
	runAll(t, []row{
		{nil, 2, "00", "A0123", nil},
		{nil, 2, "ff", "A0123 1 W7fff=01 W7ffe=23", to(56, 0x7ffe)},
		{nil, 2, "c7", "A0123 1 W7fff=01 W7ffe=23", to(0, 0x7ffe)},
		{stood(65535, 1), 2, "d7", "Affff 1 W0000=ff Wffff=ff", to(16, 65535)},
		{nil, 2, "cd 34 12", "A0123 R0123 R0124 1 W7fff=01 W7ffe=25", to(0x1234, 0x7ffe)},
		{stood(65535, 0), 2, "cd 34 12", "Affff Rffff R0000 1 Wffff=00 Wfffe=01", to(0x1234, 65534)},
		{nil, 2, "c3 34 12", "A0123 R0123 R0124", to(0x1234, 0x8000)},
		{nil, 2, "c9 34 12", "A0123 R8000 R8001", to(0x1234, 0x8002)},
		{nil, 2, "3e 5a", "A0123 R0123", func(r *api.Regs) { r.PC, r.AF = 0x124, 0x5a00 }},
		{nil, 2, "36 5a", "A0123 R0123 W9abc=5a", func(r *api.Regs) { r.PC = 0x124 }},
		{nil, 2, "18 fe", "A0123 R0123 5", func(r *api.Regs) { r.PC, r.WZ = 0x122, 0x122 }},
		{nil, 2, "db 10 5a", "A0123 R0123 Ia510", func(r *api.Regs) { r.PC, r.AF, r.WZ = 0x124, 0x5a00, 0xa511 }},
		{nil, 2, "d3 10", "A0123 R0123 Oa510=a5", func(r *api.Regs) { r.PC, r.WZ = 0x124, 0xa511 }},
		{nil, 2, "e3 34 12", "A0123 R8000 R8001 1 W8001=9a W8000=bc 2", func(r *api.Regs) { r.HL, r.WZ = 0x1234, 0x1234 }},
		{nil, 2, "76", "A0123", func(r *api.Regs) { r.Halted = true }},
		{nil, 2, "fb", "A0123", func(r *api.Regs) { r.IFF1, r.IFF2, r.Late = true, true, true }},
		{nil, 2, "f3", "A0123", nil},
		{func(r *api.Regs) { r.AF = 0xa540 }, 2, "20 10", "A0123 R0123", func(r *api.Regs) { r.PC = 0x124 }},
		{func(r *api.Regs) { r.AF = 0xa540 }, 2, "28 10", "A0123 R0123 5", func(r *api.Regs) { r.PC, r.WZ = 0x134, 0x134 }},
	})
}

func TestP13_2PrefixesInMode0(t *testing.T) {
	for _, vector := range []string{"cb", "dd", "ed", "fd"} {
		for _, pc := range words {
			from := func(r *api.Regs) { r.PC = pc }
			for _, behind := range []string{"", " 00", " 3e 5a", " fb", " cb", " dd", " ed", " fd"} {
				row{from, 2, vector + behind, fmt.Sprintf("A%04x", pc), nil}.run(t)
			}
		}
	}
}

func TestP13_2Mode1(t *testing.T) {
	with := func(f func(r *api.Regs)) func(r *api.Regs) {
		return func(r *api.Regs) {
			r.Mode = 1
			f(r)
		}
	}
	runAll(t, []row{
		{with(stood(5, 2)), 2, "00", "A0005 1 W0001=00 W0000=05", to(56, 0)},
		{with(stood(0, 0)), 2, "00", "A0000 1 Wffff=00 Wfffe=00", to(56, 65534)},
		{with(stood(1, 1)), 2, "dd", "A0001 1 W0000=00 Wffff=01", to(56, 65535)},
		{with(stood(2, 65534)), 2, "fb", "A0002 1 Wfffd=00 Wfffc=02", to(56, 65532)},
		{with(stood(65534, 65535)), 2, "ff", "Afffe 1 Wfffe=ff Wfffd=fe", to(56, 65533)},
		{with(stood(65535, 2)), 2, "76", "Affff 1 W0001=ff W0000=ff", to(56, 0)},
	})
	for vector := range 256 {
		row{with(stood(0x1234, 0x100)), 2, fmt.Sprintf("%02x", vector), "A1234 1 W00ff=12 W00fe=34", to(56, 0xfe)}.run(t)
	}
}

func TestP13_2Mode2AndOthers(t *testing.T) {
	for _, mode := range tables {
		with := func(i uint8, pc, sp uint16) func(r *api.Regs) {
			return func(r *api.Regs) { r.Mode, r.I, r.PC, r.SP = mode, i, pc, sp }
		}
		runAll(t, []row{
			{with(0x20, 0x123, 0x8000), 2, "fe 78 56", "A0123 1 W7fff=01 W7ffe=23 R20fe R20ff", to(0x5678, 0x7ffe)},
			{with(0x20, 0x123, 0x8000), 2, "ff 78 56", "A0123 1 W7fff=01 W7ffe=23 R20ff R2100", to(0x5678, 0x7ffe)},
			{with(0, 0, 0), 2, "00 ff 00", "A0000 1 Wffff=00 Wfffe=00 R0000 R0001", to(255, 65534)},
			{with(0, 1, 1), 2, "7f 00 ff", "A0001 1 W0000=00 Wffff=01 R007f R0080", to(0xff00, 65535)},
			{with(0, 2, 2), 2, "ff", "A0002 1 W0001=00 W0000=02 R00ff R0100", to(0, 0)},
			{with(127, 65534, 65534), 2, "80 01", "Afffe 1 Wfffd=ff Wfffc=fe R7f80 R7f81", to(1, 65532)},
			{with(127, 65534, 65534), 2, "ff 01 80", "Afffe 1 Wfffd=ff Wfffc=fe R7fff R8000", to(0x8001, 65532)},
			{with(128, 65535, 65535), 2, "00 34 12", "Affff 1 Wfffe=ff Wfffd=ff R8000 R8001", to(0x1234, 65533)},
			{with(255, 65535, 2), 2, "ff 34 12", "Affff 1 W0001=ff W0000=ff Rffff R0000", to(0x1234, 0)},
			{with(255, 5, 2), 2, "80 dd fb", "A0005 1 W0001=00 W0000=05 Rff80 Rff81", to(0xfbdd, 0)},
		})
	}
}

// latches is the four of them, told apart.
type latches struct{ halted, late, iff1, iff2 bool }

func TestP13_2LatchesBehind(t *testing.T) {
	for n := range 16 {
		was := latches{n&1 != 0, n&2 != 0, n&4 != 0, n&8 != 0}
		for _, c := range []struct {
			which, mode int
			vector      uint8
			want        latches
		}{
			{1, 0, 0xfb, latches{false, false, false, was.iff2}},
			{1, 1, 0xfb, latches{false, false, false, was.iff2}},
			{1, 2, 0x76, latches{false, false, false, was.iff2}},
			{1, 3, 0x76, latches{false, false, false, was.iff2}},
			{2, 0, 0x00, latches{}},
			{2, 0, 0xff, latches{}},
			{2, 0, 0xf3, latches{}},
			{2, 0, 0xed, latches{}},
			{2, 0, 0xfb, latches{late: true, iff1: true, iff2: true}},
			{2, 0, 0x76, latches{halted: true}},
			{2, 1, 0xfb, latches{}},
			{2, 2, 0x76, latches{}},
			{2, 3, 0xfb, latches{}},
			{2, -1, 0xfb, latches{}},
		} {
			r := api.Regs{Mode: c.mode, Halted: was.halted, Late: was.late, IFF1: was.iff1, IFF2: was.iff2}
			_, s := play(t, of(r, c.which), []uint8{c.vector}, 0)
			if got := (latches{s.Halted, s.Late, s.IFF1, s.IFF2}); got != c.want || s.Mode != c.mode {
				t.Errorf("%+v: %+v of %+v, Mode %d", c, got, was, s.Mode)
			}
		}
	}
}

func TestP13_2Refresh(t *testing.T) {
	for _, c := range refreshes {
		for _, mode := range modes() {
			for _, vector := range []uint8{0, 0x3e, 0x76, 0xcd, 0xcb, 0xdd, 0xed, 0xfd, 0xff} {
				for which := 1; which <= 2; which++ {
					_, s := play(t, of(api.Regs{R: c.was, Mode: mode}, which), []uint8{vector}, vector)
					if s.R != c.one {
						t.Errorf("%d in Mode %d with %x: R is %d behind %d", which, mode, vector, s.R, c.was)
					}
				}
			}
		}
	}
}

func TestP13_2EachCycleInItsTurn(t *testing.T) {
	r := api.Regs{PC: 0x1234, SP: 0x100, I: 0x20, IFF1: true, IFF2: true, Halted: true, Late: true, Mode: 2, R: 255}
	l := []api.Cycle{
		{Kind: api.Ack, Addr: 0x1234, T: 6},
		{Kind: api.Inner, T: 1},
		{Kind: api.Write, Addr: 0xff, Data: 0x12, T: 3},
		{Kind: api.Write, Addr: 0xfe, Data: 0x34, T: 3},
		{Kind: api.Read, Addr: 0x20ff, T: 3},
		{Kind: api.Read, Addr: 0x2100, T: 3},
	}
	got := []uint8{0xff, 1, 2, 3, 0x78, 0x56, 0x9a}
	for n, want := range l {
		if c, s, done := Next(r, 2, got[:n]); c != want || s != (api.Regs{}) || done {
			t.Error(n, c, s, done)
		}
	}
	for n := len(l); n <= len(got); n++ {
		if c, s, done := Next(r, 2, got[:n]); c != (api.Cycle{}) || s != (api.Regs{PC: 0x5678, WZ: 0x5678, SP: 0xfe, I: 0x20, R: 128, Mode: 2}) || !done {
			t.Error(n, c, s, done)
		}
	}
	for _, none := range [][]uint8{nil, {}} {
		if c, s, done := Next(r, 1, none); c != (api.Cycle{Kind: api.Fetch, Addr: 0x1234, T: 4}) || s != (api.Regs{}) || done {
			t.Error(c, s, done)
		}
		for _, mode := range modes() {
			r.Mode = mode
			if c, s, done := Next(r, 2, none); c != (api.Cycle{Kind: api.Ack, Addr: 0x1234, T: 6}) || s != (api.Regs{}) || done {
				t.Error(mode, c, s, done)
			}
		}
	}
}

func TestP13_2TheExample(t *testing.T) {
	ready := api.Regs{PC: 5, SP: 2, IFF1: true, Mode: 1}
	which := Which(ready, false, true)
	l, s := play(t, of(ready, which), []uint8{0xff}, 0)
	if which != 2 || tale(l) != "A0005 1 W0001=00 W0000=05" || States(ready, which, nil) != 13 {
		t.Error(which, tale(l), States(ready, which, nil))
	}
	check(t, "the example", s, api.Regs{PC: 56, WZ: 56, R: 1, Mode: 1})
}

// chain is a prefix, so many times, and what stands behind it.
func chain(n int, behind ...uint8) []uint8 {
	return append(slices.Repeat([]uint8{0xdd}, n), behind...)
}

func TestP13_3States(t *testing.T) {
	for _, c := range []struct {
		mode, which int
		answers     []uint8
		want        int
	}{
		{0, 0, nil, 4},
		{0, 0, []uint8{0xcd}, 17},
		{0, 0, []uint8{0xdd}, 8},
		{0, 0, []uint8{0xed, 0xb1}, 16},
		{0, 0, []uint8{0xed, 0xb1, 1}, 21},
		{0, 0, []uint8{0xdd, 0xfd, 0xed, 0xb1}, 24},
		{0, 0, []uint8{0xdd, 0xfd, 0xed, 0xb1, 1, 1}, 29},
		{0, 0, chain(195, 0x36), 195*4 + 4 + 3 + 3 + 2 + 3},
		{0, 0, chain(196, 0x36), 196*4 + 4 + 3 + 3 + 2},
		{0, 0, chain(197, 0x36), 197*4 + 4 + 3 + 3},
		{0, 0, chain(198, 0x36), 198*4 + 4 + 3},
		{0, 0, chain(198), 796},
		{0, 0, chain(199), 800},
		{0, 0, chain(199, 0x36), 800},
		{0, 0, chain(200), 800},
		{0, 0, chain(201), 800},
		{2, 3, chain(5000), 800},
		{1, -1, chain(5000), 800},
		{0, 1, nil, 11},
		{0, 1, []uint8{0xcd, 1, 2}, 11},
		{0, 1, chain(5000), 11},
		{2, 1, chain(1), 11},
		{0, 2, nil, 6},
		{0, 2, []uint8{0xff}, 13},
		{0, 2, []uint8{0xcd}, 19},
		{0, 2, []uint8{0xcd, 1}, 19},
		{0, 2, []uint8{0xcd, 1, 2, 3, 4}, 19},
		{0, 2, []uint8{0xdb, 0x10}, 13},
		{0, 2, []uint8{0xd3}, 13},
		{0, 2, []uint8{0x76}, 6},
		{0, 2, []uint8{0x10}, 15},
		{0, 2, []uint8{0xe3}, 21},
		{0, 2, chain(1), 6},
		{0, 2, chain(5000), 6},
		{0, 2, []uint8{0xed, 0xb0}, 6},
		{0, 2, []uint8{0xfd, 0xfd}, 6},
		{0, 2, []uint8{0xcb}, 6},
		{1, 2, nil, 13},
		{1, 2, chain(5000), 13},
		{2, 2, nil, 19},
		{2, 2, []uint8{0xff}, 19},
		{2, 2, []uint8{0xff, 1}, 19},
		{2, 2, chain(5000), 19},
		{3, 2, nil, 19},
		{-1, 2, nil, 19},
	} {
		was := slices.Clone(c.answers)
		if got := States(api.Regs{Mode: c.mode}, c.which, c.answers); got != c.want {
			t.Errorf("Mode %d, %d, %d answers: %d, want %d", c.mode, c.which, len(c.answers), got, c.want)
		}
		if !slices.Equal(was, c.answers) {
			t.Errorf("Mode %d, %d: the answers have changed", c.mode, c.which)
		}
	}
	for _, which := range neither {
		if got := States(api.Regs{Halted: true}, which, chain(5)); got != 4 {
			t.Errorf("halted, %d: %d", which, got)
		}
	}
}

func TestP13_3AnswersAndWhatStandsBehindThemStay(t *testing.T) {
	for _, mode := range modes() {
		for which := range 4 {
			for n := range 8 {
				whole := []uint8{0xcd, 1, 2, spare, spare, spare, spare, spare}
				was := slices.Clone(whole)
				States(api.Regs{Mode: mode}, which, whole[:n])
				if !slices.Equal(whole, was) {
					t.Errorf("Mode %d, %d: %x", mode, which, whole)
				}
			}
		}
	}
}

func TestP13_4States(t *testing.T) {
	for n := range 16 {
		for _, at := range words {
			for b := range 256 {
				r := base()
				r.Halted, r.Late, r.IFF1, r.IFF2 = n&1 != 0, n&2 != 0, n&4 != 0, n&8 != 0
				r.PC, r.SP, r.I, r.AF = at, at, uint8(b), uint16(b)
				answers := []uint8{uint8(b), uint8(b)}
				for mode, want := range map[int]int{1: 13, 2: 19, 3: 19, -1: 19} {
					r.Mode = mode
					if got := States(r, 1, answers); got != 11 {
						t.Fatalf("1 in Mode %d: %d", mode, got)
					}
					if got := States(r, 2, answers); got != want {
						t.Fatalf("2 in Mode %d: %d", mode, got)
					}
				}
			}
		}
	}
}

func TestP13_4StatesInMode0(t *testing.T) {
	for code := range 256 {
		switch code {
		case 0xcb, 0xdd, 0xed, 0xfd:
			if got := States(base(), 2, []uint8{uint8(code), 1, 2}); got != 4+2 {
				t.Errorf("%02x: %d", code, got)
			}
			continue
		}
		op := api.Op{Code: uint8(code)}
		seen := map[int]int{}
		for _, f := range []uint16{0, 255} {
			for _, b := range []uint16{0, 256} {
				r := base()
				r.AF, r.BC = f, b
				got := States(r, 2, []uint8{uint8(code)})
				seen[got]++
				r.Halted = false
				if takes, _ := next.Takes(r, []uint8{uint8(code)}); got != takes+2 {
					t.Errorf("%02x: %d, want %d and 2", code, got, takes)
				}
			}
		}
		if times.Asks(op) {
			if len(seen) != 2 || seen[times.Of(op, false)+2] != 2 || seen[times.Of(op, true)+2] != 2 {
				t.Errorf("%02x: %v", code, seen)
			}
		} else if seen[times.Of(op, false)+2] != 4 {
			t.Errorf("%02x: %v", code, seen)
		}
	}
}
