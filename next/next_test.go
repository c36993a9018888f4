package next

import (
	"fmt"
	"math"
	"slices"
	"testing"

	"charabanc/api"
)

func TestP12_1JumpsByADisplacement(t *testing.T) {
	runAll(t, []row{
		{nil, "00", "F0100", 0x101, 6, nil},
		{nil, "08", "F0100", 0x101, 6, func(r *api.Regs) { r.AF, r.AF2 = 0x0102, 0xa500 }},
		{nil, "dd 08", "F0100 F0101", 0x102, 7, func(r *api.Regs) { r.AF, r.AF2 = 0x0102, 0xa500 }},
		{nil, "10 05", "F0100 1 R0101 5", 0x107, 6, func(r *api.Regs) { r.BC, r.WZ = 0x1134, 0x107 }},
		{func(r *api.Regs) { r.BC = 0x0134 }, "10 05", "F0100 1 R0101", 0x102, 6, func(r *api.Regs) { r.BC = 0x0034 }},
		{func(r *api.Regs) { r.BC = 0x0034 }, "10 ff", "F0100 1 R0101 5", 0x101, 6, func(r *api.Regs) { r.BC, r.WZ = 0xff34, 0x101 }},
		{nil, "18 00", "F0100 R0101 5", 0x102, 6, func(r *api.Regs) { r.WZ = 0x102 }},
		{nil, "18 7f", "F0100 R0101 5", 0x181, 6, func(r *api.Regs) { r.WZ = 0x181 }},
		{nil, "18 80", "F0100 R0101 5", 0x082, 6, func(r *api.Regs) { r.WZ = 0x082 }},
		{nil, "18 ff", "F0100 R0101 5", 0x101, 6, func(r *api.Regs) { r.WZ = 0x101 }},
		{nil, "dd 18 05", "F0100 F0101 R0102 5", 0x108, 7, func(r *api.Regs) { r.WZ = 0x108 }},
		{nil, "fd 10 05", "F0100 F0101 1 R0102 5", 0x108, 7, func(r *api.Regs) { r.BC, r.WZ = 0x1134, 0x108 }},
		{func(r *api.Regs) { r.PC = 65534 }, "18 00", "Ffffe Rffff 5", 0, 6, func(r *api.Regs) { r.WZ = 0 }},
		{func(r *api.Regs) { r.PC = 65535 }, "18 80", "Fffff R0000 5", 0xff81, 6, func(r *api.Regs) { r.WZ = 0xff81 }},
		{func(r *api.Regs) { r.PC = 0 }, "18 80", "F0000 R0001 5", 0xff82, 6, func(r *api.Regs) { r.WZ = 0xff82 }},
	})
}

// conditions is the flag that a condition asks for, and whether it must be set.
var conditions = []struct {
	flag uint16
	set  bool
}{{64, false}, {64, true}, {1, false}, {1, true}, {4, false}, {4, true}, {128, false}, {128, true}}

func TestP12_1EachConditionBothWays(t *testing.T) {
	for n, c := range conditions {
		for _, f := range []uint16{0, 255, c.flag, 255 - c.flag} {
			holds := (f&c.flag != 0) == c.set
			from := func(r *api.Regs) { r.AF = 0xa500 + f }
			pick := func(yes, no string) string {
				if holds {
					return yes
				}
				return no
			}
			pc := func(yes, no uint16) uint16 {
				if holds {
					return yes
				}
				return no
			}
			back := row{from, fmt.Sprintf("%02x", 0xc0+8*n), "F0100 1", 0x101, 6, nil}
			if holds {
				back = row{from, back.bytes + " cd ab", "F0100 1 R8000 R8001", 0xabcd, 6, func(r *api.Regs) { r.SP, r.WZ = 0x8002, 0xabcd }}
			}
			runAll(t, []row{
				back,
				{from, fmt.Sprintf("%02x cd ab", 0xc2+8*n), "F0100 R0101 R0102", pc(0xabcd, 0x103), 6, func(r *api.Regs) { r.WZ = 0xabcd }},
				{from, fmt.Sprintf("fd %02x cd ab", 0xc2+8*n), "F0100 F0101 R0102 R0103", pc(0xabcd, 0x104), 7, func(r *api.Regs) { r.WZ = 0xabcd }},
				{from, fmt.Sprintf("%02x cd ab", 0xc4+8*n), "F0100 R0101 R0102" + pick(" 1 W7fff=01 W7ffe=03", ""), pc(0xabcd, 0x103), 6, func(r *api.Regs) { r.WZ, r.SP = 0xabcd, pc(0x7ffe, 0x8000) }},
			})
			if n < 4 {
				row{from, fmt.Sprintf("%02x 10", 0x20+8*n), "F0100 R0101" + pick(" 5", ""), pc(0x112, 0x102), 6, func(r *api.Regs) { r.WZ = pc(0x112, 0x7777) }}.run(t)
			}
		}
	}
}

func TestP12_1PairsAndSumsOfPairs(t *testing.T) {
	runAll(t, []row{
		{nil, "01 cd ab", "F0100 R0101 R0102", 0x103, 6, func(r *api.Regs) { r.BC = 0xabcd }},
		{nil, "11 cd ab", "F0100 R0101 R0102", 0x103, 6, func(r *api.Regs) { r.DE = 0xabcd }},
		{nil, "21 cd ab", "F0100 R0101 R0102", 0x103, 6, func(r *api.Regs) { r.HL = 0xabcd }},
		{nil, "31 cd ab", "F0100 R0101 R0102", 0x103, 6, func(r *api.Regs) { r.SP = 0xabcd }},
		{nil, "dd 21 cd ab", "F0100 F0101 R0102 R0103", 0x104, 7, func(r *api.Regs) { r.IX = 0xabcd }},
		{nil, "fd 21 cd ab", "F0100 F0101 R0102 R0103", 0x104, 7, func(r *api.Regs) { r.IY = 0xabcd }},
		{nil, "dd 11 cd ab", "F0100 F0101 R0102 R0103", 0x104, 7, func(r *api.Regs) { r.DE = 0xabcd }},
		{nil, "fd 31 cd ab", "F0100 F0101 R0102 R0103", 0x104, 7, func(r *api.Regs) { r.SP = 0xabcd }},
		{nil, "09", "F0100 7", 0x101, 6, func(r *api.Regs) { r.HL, r.AF, r.WZ = 0xacf0, 0xa528, 0x9abd }},
		{nil, "29", "F0100 7", 0x101, 6, func(r *api.Regs) { r.HL, r.AF, r.WZ = 0x3578, 0xa531, 0x9abd }},
		{func(r *api.Regs) { r.AF = 0xa5ff }, "09", "F0100 7", 0x101, 6, func(r *api.Regs) { r.HL, r.AF, r.WZ = 0xacf0, 0xa5ec, 0x9abd }},
		{func(r *api.Regs) { r.HL, r.BC = 65535, 1 }, "09", "F0100 7", 0x101, 6, func(r *api.Regs) { r.HL, r.AF, r.WZ = 0, 0xa511, 0 }},
		{nil, "dd 09", "F0100 F0101 7", 0x102, 7, func(r *api.Regs) { r.IX, r.AF, r.WZ = 0x3574, 0xa520, 0x2341 }},
		{nil, "dd 29", "F0100 F0101 7", 0x102, 7, func(r *api.Regs) { r.IX, r.AF, r.WZ = 0x4680, 0xa500, 0x2341 }},
		{nil, "fd 39", "F0100 F0101 7", 0x102, 7, func(r *api.Regs) { r.IY, r.AF, r.WZ = 0xc560, 0xa500, 0x4561 }},
		{func(r *api.Regs) { r.AF = 0xa5ff }, "03", "F0100 2", 0x101, 6, func(r *api.Regs) { r.BC = 0x1235 }},
		{nil, "13", "F0100 2", 0x101, 6, func(r *api.Regs) { r.DE = 0x5679 }},
		{nil, "23", "F0100 2", 0x101, 6, func(r *api.Regs) { r.HL = 0x9abd }},
		{nil, "33", "F0100 2", 0x101, 6, func(r *api.Regs) { r.SP = 0x8001 }},
		{nil, "0b", "F0100 2", 0x101, 6, func(r *api.Regs) { r.BC = 0x1233 }},
		{nil, "3b", "F0100 2", 0x101, 6, func(r *api.Regs) { r.SP = 0x7fff }},
		{nil, "dd 23", "F0100 F0101 2", 0x102, 7, func(r *api.Regs) { r.IX = 0x2341 }},
		{nil, "fd 2b", "F0100 F0101 2", 0x102, 7, func(r *api.Regs) { r.IY = 0x455f }},
		{nil, "dd 33", "F0100 F0101 2", 0x102, 7, func(r *api.Regs) { r.SP = 0x8001 }},
		{func(r *api.Regs) { r.BC = 65535 }, "03", "F0100 2", 0x101, 6, func(r *api.Regs) { r.BC = 0 }},
		{func(r *api.Regs) { r.BC = 0 }, "0b", "F0100 2", 0x101, 6, func(r *api.Regs) { r.BC = 65535 }},
		{func(r *api.Regs) { r.IX = 65535 }, "dd 23", "F0100 F0101 2", 0x102, 7, func(r *api.Regs) { r.IX = 0 }},
		{func(r *api.Regs) { r.IY = 0 }, "fd 2b", "F0100 F0101 2", 0x102, 7, func(r *api.Regs) { r.IY = 65535 }},
	})
}

func TestP12_1ThroughPlaces(t *testing.T) {
	runAll(t, []row{
		{nil, "02", "F0100 W1234=a5", 0x101, 6, func(r *api.Regs) { r.WZ = 0xa535 }},
		{nil, "12", "F0100 W5678=a5", 0x101, 6, func(r *api.Regs) { r.WZ = 0xa579 }},
		{func(r *api.Regs) { r.BC = 0x12ff }, "02", "F0100 W12ff=a5", 0x101, 6, func(r *api.Regs) { r.WZ = 0xa500 }},
		{nil, "dd 02", "F0100 F0101 W1234=a5", 0x102, 7, func(r *api.Regs) { r.WZ = 0xa535 }},
		{nil, "0a 5a", "F0100 R1234", 0x101, 6, func(r *api.Regs) { r.AF, r.WZ = 0x5a00, 0x1235 }},
		{nil, "1a 5a", "F0100 R5678", 0x101, 6, func(r *api.Regs) { r.AF, r.WZ = 0x5a00, 0x5679 }},
		{func(r *api.Regs) { r.BC = 65535 }, "0a 5a", "F0100 Rffff", 0x101, 6, func(r *api.Regs) { r.AF, r.WZ = 0x5a00, 0 }},
		{func(r *api.Regs) { r.DE = 0x00ff }, "fd 1a 5a", "F0100 F0101 R00ff", 0x102, 7, func(r *api.Regs) { r.AF, r.WZ = 0x5a00, 0x100 }},
		{nil, "22 fe 00", "F0100 R0101 R0102 W00fe=bc W00ff=9a", 0x103, 6, func(r *api.Regs) { r.WZ = 0x00ff }},
		{nil, "22 ff ff", "F0100 R0101 R0102 Wffff=bc W0000=9a", 0x103, 6, func(r *api.Regs) { r.WZ = 0 }},
		{nil, "2a 00 20 5a 66", "F0100 R0101 R0102 R2000 R2001", 0x103, 6, func(r *api.Regs) { r.HL, r.WZ = 0x665a, 0x2001 }},
		{nil, "2a ff ff 5a 66", "F0100 R0101 R0102 Rffff R0000", 0x103, 6, func(r *api.Regs) { r.HL, r.WZ = 0x665a, 0 }},
		{nil, "32 ff 20", "F0100 R0101 R0102 W20ff=a5", 0x103, 6, func(r *api.Regs) { r.WZ = 0xa500 }},
		{nil, "32 10 20", "F0100 R0101 R0102 W2010=a5", 0x103, 6, func(r *api.Regs) { r.WZ = 0xa511 }},
		{nil, "3a ff 20 5a", "F0100 R0101 R0102 R20ff", 0x103, 6, func(r *api.Regs) { r.AF, r.WZ = 0x5a00, 0x2100 }},
		{nil, "dd 22 00 20", "F0100 F0101 R0102 R0103 W2000=40 W2001=23", 0x104, 7, func(r *api.Regs) { r.WZ = 0x2001 }},
		{nil, "fd 2a 00 20 5a 66", "F0100 F0101 R0102 R0103 R2000 R2001", 0x104, 7, func(r *api.Regs) { r.IY, r.WZ = 0x665a, 0x2001 }},
		{nil, "fd 3a 00 20 5a", "F0100 F0101 R0102 R0103 R2000", 0x104, 7, func(r *api.Regs) { r.AF, r.WZ = 0x5a00, 0x2001 }},
	})
}

func TestP12_1CountsAndNumbers(t *testing.T) {
	runAll(t, []row{
		{nil, "04", "F0100", 0x101, 6, func(r *api.Regs) { r.BC = 0x1334 }},
		{nil, "05", "F0100", 0x101, 6, func(r *api.Regs) { r.BC, r.AF = 0x1134, 0xa502 }},
		{nil, "3c", "F0100", 0x101, 6, func(r *api.Regs) { r.AF = 0xa6a0 }},
		{func(r *api.Regs) { r.AF = 0xa501 }, "3c", "F0100", 0x101, 6, func(r *api.Regs) { r.AF = 0xa6a1 }},
		{nil, "34 7f", "F0100 R9abc 1 W9abc=80", 0x101, 6, func(r *api.Regs) { r.AF = 0xa594 }},
		{nil, "35 80", "F0100 R9abc 1 W9abc=7f", 0x101, 6, func(r *api.Regs) { r.AF = 0xa53e }},
		{nil, "dd 34 05 7f", "F0100 F0101 R0102 5 R2345 1 W2345=80", 0x103, 7, func(r *api.Regs) { r.AF, r.WZ = 0xa594, 0x2345 }},
		{nil, "fd 35 ff 80", "F0100 F0101 R0102 5 R455f 1 W455f=7f", 0x103, 7, func(r *api.Regs) { r.AF, r.WZ = 0xa53e, 0x455f }},
		{nil, "dd 24", "F0100 F0101", 0x102, 7, func(r *api.Regs) { r.IX, r.AF = 0x2440, 0xa520 }},
		{nil, "fd 2d", "F0100 F0101", 0x102, 7, func(r *api.Regs) { r.IY, r.AF = 0x455f, 0xa51a }},
		{nil, "06 5a", "F0100 R0101", 0x102, 6, func(r *api.Regs) { r.BC = 0x5a34 }},
		{nil, "3e 5a", "F0100 R0101", 0x102, 6, func(r *api.Regs) { r.AF = 0x5a00 }},
		{nil, "36 5a", "F0100 R0101 W9abc=5a", 0x102, 6, nil},
		{nil, "dd 36 05 5a", "F0100 F0101 R0102 R0103 2 W2345=5a", 0x104, 7, func(r *api.Regs) { r.WZ = 0x2345 }},
		{nil, "fd 36 80 5a", "F0100 F0101 R0102 R0103 2 W44e0=5a", 0x104, 7, func(r *api.Regs) { r.WZ = 0x44e0 }},
		{nil, "dd 26 5a", "F0100 F0101 R0102", 0x103, 7, func(r *api.Regs) { r.IX = 0x5a40 }},
		{nil, "fd 2e 5a", "F0100 F0101 R0102", 0x103, 7, func(r *api.Regs) { r.IY = 0x455a }},
		{nil, "07", "F0100", 0x101, 6, func(r *api.Regs) { r.AF = 0x4b09 }},
		{func(r *api.Regs) { r.AF = 0xa501 }, "1f", "F0100", 0x101, 6, func(r *api.Regs) { r.AF = 0xd201 }},
		{nil, "27", "F0100", 0x101, 6, func(r *api.Regs) { r.AF = 0x0505 }},
		{nil, "2f", "F0100", 0x101, 6, func(r *api.Regs) { r.AF = 0x5a1a }},
		{nil, "37", "F0100", 0x101, 6, func(r *api.Regs) { r.AF = 0xa521 }},
		{func(r *api.Regs) { r.AF = 0xa501 }, "3f", "F0100", 0x101, 6, func(r *api.Regs) { r.AF = 0xa530 }},
		{nil, "dd 37", "F0100 F0101", 0x102, 7, func(r *api.Regs) { r.AF = 0xa521 }},
	})
}

func TestP12_1Loads(t *testing.T) {
	runAll(t, []row{
		{nil, "41", "F0100", 0x101, 6, func(r *api.Regs) { r.BC = 0x3434 }},
		{nil, "7c", "F0100", 0x101, 6, func(r *api.Regs) { r.AF = 0x9a00 }},
		{nil, "7f", "F0100", 0x101, 6, nil},
		{nil, "46 5a", "F0100 R9abc", 0x101, 6, func(r *api.Regs) { r.BC = 0x5a34 }},
		{nil, "66 5a", "F0100 R9abc", 0x101, 6, func(r *api.Regs) { r.HL = 0x5abc }},
		{nil, "70", "F0100 W9abc=12", 0x101, 6, nil},
		{nil, "74", "F0100 W9abc=9a", 0x101, 6, nil},
		{nil, "dd 41", "F0100 F0101", 0x102, 7, func(r *api.Regs) { r.BC = 0x3434 }},
		{nil, "dd 60", "F0100 F0101", 0x102, 7, func(r *api.Regs) { r.IX = 0x1240 }},
		{nil, "dd 6c", "F0100 F0101", 0x102, 7, func(r *api.Regs) { r.IX = 0x2323 }},
		{nil, "fd 7d", "F0100 F0101", 0x102, 7, func(r *api.Regs) { r.AF = 0x6000 }},
		{nil, "dd 46 05 5a", "F0100 F0101 R0102 5 R2345", 0x103, 7, func(r *api.Regs) { r.BC, r.WZ = 0x5a34, 0x2345 }},
		{nil, "dd 66 05 5a", "F0100 F0101 R0102 5 R2345", 0x103, 7, func(r *api.Regs) { r.HL, r.WZ = 0x5abc, 0x2345 }},
		{nil, "fd 6e 7f 5a", "F0100 F0101 R0102 5 R45df", 0x103, 7, func(r *api.Regs) { r.HL, r.WZ = 0x9a5a, 0x45df }},
		{nil, "dd 74 00", "F0100 F0101 R0102 5 W2340=9a", 0x103, 7, func(r *api.Regs) { r.WZ = 0x2340 }},
		{nil, "fd 75 80", "F0100 F0101 R0102 5 W44e0=bc", 0x103, 7, func(r *api.Regs) { r.WZ = 0x44e0 }},
		{func(r *api.Regs) { r.IX = 0 }, "dd 77 ff", "F0100 F0101 R0102 5 Wffff=a5", 0x103, 7, func(r *api.Regs) { r.WZ = 0xffff }},
		{func(r *api.Regs) { r.IY = 65535 }, "fd 77 01", "F0100 F0101 R0102 5 W0000=a5", 0x103, 7, func(r *api.Regs) { r.WZ = 0 }},
		{nil, "76", "F0100", 0x101, 6, func(r *api.Regs) { r.Halted = true }},
		{nil, "dd 76", "F0100 F0101", 0x102, 7, func(r *api.Regs) { r.Halted = true }},
	})
}

func TestP12_1Arithmetic(t *testing.T) {
	runAll(t, []row{
		{nil, "80", "F0100", 0x101, 6, func(r *api.Regs) { r.AF = 0xb7a0 }},
		{func(r *api.Regs) { r.AF = 0xa5ff }, "80", "F0100", 0x101, 6, func(r *api.Regs) { r.AF = 0xb7a0 }},
		{nil, "86 5b", "F0100 R9abc", 0x101, 6, func(r *api.Regs) { r.AF = 0x0051 }},
		{func(r *api.Regs) { r.AF = 0xa501 }, "8f", "F0100", 0x101, 6, func(r *api.Regs) { r.AF = 0x4b0d }},
		{func(r *api.Regs) { r.AF = 0xa501 }, "97", "F0100", 0x101, 6, func(r *api.Regs) { r.AF = 0x0042 }},
		{func(r *api.Regs) { r.AF = 0xa501 }, "9f", "F0100", 0x101, 6, func(r *api.Regs) { r.AF = 0xffbb }},
		{nil, "9f", "F0100", 0x101, 6, func(r *api.Regs) { r.AF = 0x0042 }},
		{nil, "a7", "F0100", 0x101, 6, func(r *api.Regs) { r.AF = 0xa5b4 }},
		{nil, "af", "F0100", 0x101, 6, func(r *api.Regs) { r.AF = 0x0044 }},
		{nil, "b0", "F0100", 0x101, 6, func(r *api.Regs) { r.AF = 0xb7a4 }},
		{nil, "b8", "F0100", 0x101, 6, func(r *api.Regs) { r.AF = 0xa582 }},
		{nil, "be a5", "F0100 R9abc", 0x101, 6, func(r *api.Regs) { r.AF = 0xa562 }},
		{nil, "dd 86 05 5b", "F0100 F0101 R0102 5 R2345", 0x103, 7, func(r *api.Regs) { r.AF, r.WZ = 0x0051, 0x2345 }},
		{nil, "dd 84", "F0100 F0101", 0x102, 7, func(r *api.Regs) { r.AF = 0xc888 }},
		{nil, "fd 85", "F0100 F0101", 0x102, 7, func(r *api.Regs) { r.AF = 0x0501 }},
		{nil, "c6 5b", "F0100 R0101", 0x102, 6, func(r *api.Regs) { r.AF = 0x0051 }},
		{func(r *api.Regs) { r.AF = 0xa501 }, "ce a5", "F0100 R0101", 0x102, 6, func(r *api.Regs) { r.AF = 0x4b0d }},
		{nil, "fe a5", "F0100 R0101", 0x102, 6, func(r *api.Regs) { r.AF = 0xa562 }},
		{nil, "fd ee a5", "F0100 F0101 R0102", 0x103, 7, func(r *api.Regs) { r.AF = 0x0044 }},
	})
}

func TestP12_1Stack(t *testing.T) {
	runAll(t, []row{
		{nil, "c1 cd ab", "F0100 R8000 R8001", 0x101, 6, func(r *api.Regs) { r.BC, r.SP = 0xabcd, 0x8002 }},
		{nil, "d1 cd ab", "F0100 R8000 R8001", 0x101, 6, func(r *api.Regs) { r.DE, r.SP = 0xabcd, 0x8002 }},
		{nil, "e1 cd ab", "F0100 R8000 R8001", 0x101, 6, func(r *api.Regs) { r.HL, r.SP = 0xabcd, 0x8002 }},
		{nil, "f1 cd ab", "F0100 R8000 R8001", 0x101, 6, func(r *api.Regs) { r.AF, r.SP = 0xabcd, 0x8002 }},
		{nil, "dd e1 cd ab", "F0100 F0101 R8000 R8001", 0x102, 7, func(r *api.Regs) { r.IX, r.SP = 0xabcd, 0x8002 }},
		{nil, "fd e1 cd ab", "F0100 F0101 R8000 R8001", 0x102, 7, func(r *api.Regs) { r.IY, r.SP = 0xabcd, 0x8002 }},
		{nil, "dd f1 cd ab", "F0100 F0101 R8000 R8001", 0x102, 7, func(r *api.Regs) { r.AF, r.SP = 0xabcd, 0x8002 }},
		{nil, "fd c1 cd ab", "F0100 F0101 R8000 R8001", 0x102, 7, func(r *api.Regs) { r.BC, r.SP = 0xabcd, 0x8002 }},
		{func(r *api.Regs) { r.SP = 65534 }, "c1 cd ab", "F0100 Rfffe Rffff", 0x101, 6, func(r *api.Regs) { r.BC, r.SP = 0xabcd, 0 }},
		{func(r *api.Regs) { r.SP = 65535 }, "f1 cd ab", "F0100 Rffff R0000", 0x101, 6, func(r *api.Regs) { r.AF, r.SP = 0xabcd, 1 }},
		{nil, "c5", "F0100 1 W7fff=12 W7ffe=34", 0x101, 6, func(r *api.Regs) { r.SP = 0x7ffe }},
		{nil, "d5", "F0100 1 W7fff=56 W7ffe=78", 0x101, 6, func(r *api.Regs) { r.SP = 0x7ffe }},
		{nil, "e5", "F0100 1 W7fff=9a W7ffe=bc", 0x101, 6, func(r *api.Regs) { r.SP = 0x7ffe }},
		{nil, "f5", "F0100 1 W7fff=a5 W7ffe=00", 0x101, 6, func(r *api.Regs) { r.SP = 0x7ffe }},
		{nil, "dd e5", "F0100 F0101 1 W7fff=23 W7ffe=40", 0x102, 7, func(r *api.Regs) { r.SP = 0x7ffe }},
		{nil, "fd e5", "F0100 F0101 1 W7fff=45 W7ffe=60", 0x102, 7, func(r *api.Regs) { r.SP = 0x7ffe }},
		{nil, "fd f5", "F0100 F0101 1 W7fff=a5 W7ffe=00", 0x102, 7, func(r *api.Regs) { r.SP = 0x7ffe }},
		{func(r *api.Regs) { r.SP = 0 }, "c5", "F0100 1 Wffff=12 Wfffe=34", 0x101, 6, func(r *api.Regs) { r.SP = 0xfffe }},
		{func(r *api.Regs) { r.SP = 1 }, "c5", "F0100 1 W0000=12 Wffff=34", 0x101, 6, func(r *api.Regs) { r.SP = 0xffff }},
		{nil, "c9 cd ab", "F0100 R8000 R8001", 0xabcd, 6, func(r *api.Regs) { r.SP, r.WZ = 0x8002, 0xabcd }},
		{nil, "cd cd ab", "F0100 R0101 R0102 1 W7fff=01 W7ffe=03", 0xabcd, 6, func(r *api.Regs) { r.SP, r.WZ = 0x7ffe, 0xabcd }},
		{func(r *api.Regs) { r.PC = 65535 }, "cd cd ab", "Fffff R0000 R0001 1 W7fff=00 W7ffe=02", 0xabcd, 6, func(r *api.Regs) { r.SP, r.WZ = 0x7ffe, 0xabcd }},
		{func(r *api.Regs) { r.PC = 65534 }, "dd cd cd ab", "Ffffe Fffff R0000 R0001 1 W7fff=00 W7ffe=02", 0xabcd, 7, func(r *api.Regs) { r.SP, r.WZ = 0x7ffe, 0xabcd }},
		{nil, "e3 cd ab", "F0100 R8000 R8001 1 W8001=9a W8000=bc 2", 0x101, 6, func(r *api.Regs) { r.HL, r.WZ = 0xabcd, 0xabcd }},
		{nil, "dd e3 cd ab", "F0100 F0101 R8000 R8001 1 W8001=23 W8000=40 2", 0x102, 7, func(r *api.Regs) { r.IX, r.WZ = 0xabcd, 0xabcd }},
		{func(r *api.Regs) { r.SP = 65535 }, "fd e3 cd ab", "F0100 F0101 Rffff R0000 1 W0000=45 Wffff=60 2", 0x102, 7, func(r *api.Regs) { r.IY, r.WZ = 0xabcd, 0xabcd }},
		{nil, "f9", "F0100 2", 0x101, 6, func(r *api.Regs) { r.SP = 0x9abc }},
		{nil, "dd f9", "F0100 F0101 2", 0x102, 7, func(r *api.Regs) { r.SP = 0x2340 }},
	})
	for y := range 8 {
		from := uint16(8 * y)
		code := fmt.Sprintf("%02x", 0xc7+from)
		row{nil, code, "F0100 1 W7fff=01 W7ffe=01", from, 6, func(r *api.Regs) { r.SP, r.WZ = 0x7ffe, from }}.run(t)
		row{nil, "fd " + code, "F0100 F0101 1 W7fff=01 W7ffe=02", from, 7, func(r *api.Regs) { r.SP, r.WZ = 0x7ffe, from }}.run(t)
	}
}

func TestP12_1JumpsExchangesPortsAndLatches(t *testing.T) {
	exx := func(r *api.Regs) {
		r.BC, r.DE, r.HL = 0x0304, 0x0506, 0x0708
		r.BC2, r.DE2, r.HL2 = 0x1234, 0x5678, 0x9abc
	}
	on := func(r *api.Regs) { r.IFF1, r.IFF2 = true, true }
	runAll(t, []row{
		{nil, "c3 cd ab", "F0100 R0101 R0102", 0xabcd, 6, func(r *api.Regs) { r.WZ = 0xabcd }},
		{nil, "e9", "F0100", 0x9abc, 6, nil},
		{nil, "dd e9", "F0100 F0101", 0x2340, 7, nil},
		{nil, "fd e9", "F0100 F0101", 0x4560, 7, nil},
		{nil, "d9", "F0100", 0x101, 6, exx},
		{nil, "fd d9", "F0100 F0101", 0x102, 7, exx},
		{nil, "eb", "F0100", 0x101, 6, func(r *api.Regs) { r.DE, r.HL = 0x9abc, 0x5678 }},
		{nil, "dd eb", "F0100 F0101", 0x102, 7, func(r *api.Regs) { r.DE, r.HL = 0x9abc, 0x5678 }},
		{nil, "fd eb", "F0100 F0101", 0x102, 7, func(r *api.Regs) { r.DE, r.HL = 0x9abc, 0x5678 }},
		{nil, "d3 10", "F0100 R0101 Oa510=a5", 0x102, 6, func(r *api.Regs) { r.WZ = 0xa511 }},
		{nil, "d3 ff", "F0100 R0101 Oa5ff=a5", 0x102, 6, func(r *api.Regs) { r.WZ = 0xa500 }},
		{nil, "db 10 5a", "F0100 R0101 Ia510", 0x102, 6, func(r *api.Regs) { r.AF, r.WZ = 0x5a00, 0xa511 }},
		{nil, "db ff 5a", "F0100 R0101 Ia5ff", 0x102, 6, func(r *api.Regs) { r.AF, r.WZ = 0x5a00, 0xa600 }},
		{func(r *api.Regs) { r.AF = 0xffff }, "db ff 5a", "F0100 R0101 Iffff", 0x102, 6, func(r *api.Regs) { r.AF, r.WZ = 0x5aff, 0 }},
		{nil, "fb", "F0100", 0x101, 6, func(r *api.Regs) { r.IFF1, r.IFF2, r.Late = true, true, true }},
		{nil, "dd fb", "F0100 F0101", 0x102, 7, func(r *api.Regs) { r.IFF1, r.IFF2, r.Late = true, true, true }},
		{on, "fb", "F0100", 0x101, 6, func(r *api.Regs) { r.Late = true }},
		{on, "f3", "F0100", 0x101, 6, func(r *api.Regs) { r.IFF1, r.IFF2 = false, false }},
		{nil, "f3", "F0100", 0x101, 6, nil},
		{on, "00", "F0100", 0x101, 6, nil},
	})
}

func TestP12_1BehindCB(t *testing.T) {
	runAll(t, []row{
		{nil, "cb 00", "F0100 F0101", 0x102, 7, func(r *api.Regs) { r.BC, r.AF = 0x2434, 0xa524 }},
		{nil, "cb 06 81", "F0100 F0101 R9abc 1 W9abc=03", 0x102, 7, func(r *api.Regs) { r.AF = 0xa505 }},
		{func(r *api.Regs) { r.AF = 0xa501 }, "cb 16 81", "F0100 F0101 R9abc 1 W9abc=03", 0x102, 7, func(r *api.Regs) { r.AF = 0xa505 }},
		{func(r *api.Regs) { r.WZ = 0x2800 }, "cb 46 00", "F0100 F0101 R9abc 1", 0x102, 7, func(r *api.Regs) { r.AF = 0xa57c }},
		{func(r *api.Regs) { r.WZ = 0x0028 }, "cb 46 28", "F0100 F0101 R9abc 1", 0x102, 7, func(r *api.Regs) { r.AF = 0xa554 }},
		{nil, "cb 7f", "F0100 F0101", 0x102, 7, func(r *api.Regs) { r.AF = 0xa5b0 }},
		{nil, "cb 88", "F0100 F0101", 0x102, 7, func(r *api.Regs) { r.BC = 0x1034 }},
		{nil, "cb c0", "F0100 F0101", 0x102, 7, func(r *api.Regs) { r.BC = 0x1334 }},
		{func(r *api.Regs) { r.AF = 0xa5ff }, "cb bf", "F0100 F0101", 0x102, 7, func(r *api.Regs) { r.AF = 0x25ff }},
		{nil, "cb be ff", "F0100 F0101 R9abc 1 W9abc=7f", 0x102, 7, nil},
		{nil, "cb fe 00", "F0100 F0101 R9abc 1 W9abc=80", 0x102, 7, nil},
		{nil, "dd cb 05 06 81", "F0100 F0101 R0102 R0103 2 R2345 1 W2345=03", 0x104, 7, func(r *api.Regs) { r.AF, r.WZ = 0xa505, 0x2345 }},
		{nil, "dd cb 05 00 81", "F0100 F0101 R0102 R0103 2 R2345 1 W2345=03", 0x104, 7, func(r *api.Regs) { r.AF, r.WZ, r.BC = 0xa505, 0x2345, 0x0334 }},
		{nil, "dd cb 05 04 81", "F0100 F0101 R0102 R0103 2 R2345 1 W2345=03", 0x104, 7, func(r *api.Regs) { r.AF, r.WZ, r.HL = 0xa505, 0x2345, 0x03bc }},
		{nil, "fd cb 00 05 81", "F0100 F0101 R0102 R0103 2 R4560 1 W4560=03", 0x104, 7, func(r *api.Regs) { r.AF, r.WZ, r.HL = 0xa505, 0x4560, 0x9a03 }},
		{nil, "dd cb 05 07 81", "F0100 F0101 R0102 R0103 2 R2345 1 W2345=03", 0x104, 7, func(r *api.Regs) { r.AF, r.WZ = 0x0305, 0x2345 }},
		{nil, "fd cb 80 c6 00", "F0100 F0101 R0102 R0103 2 R44e0 1 W44e0=01", 0x104, 7, func(r *api.Regs) { r.WZ = 0x44e0 }},
		{nil, "fd cb 7f c7 00", "F0100 F0101 R0102 R0103 2 R45df 1 W45df=01", 0x104, 7, func(r *api.Regs) { r.AF, r.WZ = 0x0100, 0x45df }},
		{nil, "dd cb ff 81 ff", "F0100 F0101 R0102 R0103 2 R233f 1 W233f=fe", 0x104, 7, func(r *api.Regs) { r.BC, r.WZ = 0x12fe, 0x233f }},
		{nil, "dd cb 05 46 00", "F0100 F0101 R0102 R0103 2 R2345 1", 0x104, 7, func(r *api.Regs) { r.AF, r.WZ = 0xa574, 0x2345 }},
		{nil, "dd cb 05 40 00", "F0100 F0101 R0102 R0103 2 R2345 1", 0x104, 7, func(r *api.Regs) { r.AF, r.WZ = 0xa574, 0x2345 }},
		{nil, "fd cb ff 7f 80", "F0100 F0101 R0102 R0103 2 R455f 1", 0x104, 7, func(r *api.Regs) { r.AF, r.WZ = 0xa590, 0x455f }},
		{func(r *api.Regs) { r.IX, r.PC = 65535, 65534 }, "dd cb 01 c6 00", "Ffffe Fffff R0000 R0001 2 R0000 1 W0000=01", 2, 7, func(r *api.Regs) { r.WZ = 0 }},
		{func(r *api.Regs) { r.IY, r.PC = 0, 65535 }, "fd cb ff c6 00", "Fffff F0000 R0001 R0002 2 Rffff 1 Wffff=01", 3, 7, func(r *api.Regs) { r.WZ = 0xffff }},
	})
}

func TestP12_1BehindED(t *testing.T) {
	one := func(r *api.Regs) { r.IFF1 = true }
	two := func(r *api.Regs) { r.IFF2 = true }
	both := func(r *api.Regs) { r.IFF1, r.IFF2 = true, true }
	carry := func(r *api.Regs) { r.AF = 0xa501 }
	back := func(r *api.Regs) { r.SP, r.WZ = 0x8002, 0xabcd }
	runAll(t, []row{
		{nil, "ed 40 5a", "F0100 F0101 I1234", 0x102, 7, func(r *api.Regs) { r.BC, r.AF, r.WZ = 0x5a34, 0xa50c, 0x1235 }},
		{nil, "ed 48 5a", "F0100 F0101 I1234", 0x102, 7, func(r *api.Regs) { r.BC, r.AF, r.WZ = 0x125a, 0xa50c, 0x1235 }},
		{nil, "ed 70 00", "F0100 F0101 I1234", 0x102, 7, func(r *api.Regs) { r.AF, r.WZ = 0xa544, 0x1235 }},
		{carry, "ed 78 80", "F0100 F0101 I1234", 0x102, 7, func(r *api.Regs) { r.AF, r.WZ = 0x8081, 0x1235 }},
		{func(r *api.Regs) { r.BC = 65535 }, "ed 60 5a", "F0100 F0101 Iffff", 0x102, 7, func(r *api.Regs) { r.HL, r.AF, r.WZ = 0x5abc, 0xa50c, 0 }},
		{nil, "ed 41", "F0100 F0101 O1234=12", 0x102, 7, func(r *api.Regs) { r.WZ = 0x1235 }},
		{nil, "ed 69", "F0100 F0101 O1234=bc", 0x102, 7, func(r *api.Regs) { r.WZ = 0x1235 }},
		{nil, "ed 71", "F0100 F0101 O1234=00", 0x102, 7, func(r *api.Regs) { r.WZ = 0x1235 }},
		{nil, "ed 79", "F0100 F0101 O1234=a5", 0x102, 7, func(r *api.Regs) { r.WZ = 0x1235 }},
		{nil, "ed 42", "F0100 F0101 7", 0x102, 7, func(r *api.Regs) { r.HL, r.AF, r.WZ = 0x8888, 0xa58a, 0x9abd }},
		{carry, "ed 4a", "F0100 F0101 7", 0x102, 7, func(r *api.Regs) { r.HL, r.AF, r.WZ = 0xacf1, 0xa5a8, 0x9abd }},
		{carry, "ed 62", "F0100 F0101 7", 0x102, 7, func(r *api.Regs) { r.HL, r.AF, r.WZ = 0xffff, 0xa5bb, 0x9abd }},
		{nil, "ed 43 00 20", "F0100 F0101 R0102 R0103 W2000=34 W2001=12", 0x104, 7, func(r *api.Regs) { r.WZ = 0x2001 }},
		{nil, "ed 63 00 20", "F0100 F0101 R0102 R0103 W2000=bc W2001=9a", 0x104, 7, func(r *api.Regs) { r.WZ = 0x2001 }},
		{nil, "ed 73 ff ff", "F0100 F0101 R0102 R0103 Wffff=00 W0000=80", 0x104, 7, func(r *api.Regs) { r.WZ = 0 }},
		{nil, "ed 4b 00 20 cd ab", "F0100 F0101 R0102 R0103 R2000 R2001", 0x104, 7, func(r *api.Regs) { r.BC, r.WZ = 0xabcd, 0x2001 }},
		{nil, "ed 6b ff ff cd ab", "F0100 F0101 R0102 R0103 Rffff R0000", 0x104, 7, func(r *api.Regs) { r.HL, r.WZ = 0xabcd, 0 }},
		{nil, "ed 7b fe 00 cd ab", "F0100 F0101 R0102 R0103 R00fe R00ff", 0x104, 7, func(r *api.Regs) { r.SP, r.WZ = 0xabcd, 0x00ff }},
		{nil, "ed 44", "F0100 F0101", 0x102, 7, func(r *api.Regs) { r.AF = 0x5b1b }},
		{nil, "ed 7c", "F0100 F0101", 0x102, 7, func(r *api.Regs) { r.AF = 0x5b1b }},
		{nil, "ed 45 cd ab", "F0100 F0101 R8000 R8001", 0xabcd, 7, back},
		{two, "ed 45 cd ab", "F0100 F0101 R8000 R8001", 0xabcd, 7, func(r *api.Regs) { back(r); r.IFF1 = true }},
		{one, "ed 45 cd ab", "F0100 F0101 R8000 R8001", 0xabcd, 7, func(r *api.Regs) { back(r); r.IFF1 = false }},
		{both, "ed 45 cd ab", "F0100 F0101 R8000 R8001", 0xabcd, 7, back},
		{two, "ed 4d cd ab", "F0100 F0101 R8000 R8001", 0xabcd, 7, func(r *api.Regs) { back(r); r.IFF1 = true }},
		{one, "ed 7d cd ab", "F0100 F0101 R8000 R8001", 0xabcd, 7, func(r *api.Regs) { back(r); r.IFF1 = false }},
		{nil, "ed 47", "F0100 F0101 1", 0x102, 7, func(r *api.Regs) { r.I = 0xa5 }},
		{nil, "ed 4f", "F0100 F0101 1", 0x102, 0xa5, nil},
		{nil, "ed 57", "F0100 F0101 1", 0x102, 7, func(r *api.Regs) { r.AF = 0x3f28 }},
		{two, "ed 57", "F0100 F0101 1", 0x102, 7, func(r *api.Regs) { r.AF = 0x3f2c }},
		{one, "ed 57", "F0100 F0101 1", 0x102, 7, func(r *api.Regs) { r.AF = 0x3f28 }},
		{carry, "ed 57", "F0100 F0101 1", 0x102, 7, func(r *api.Regs) { r.AF = 0x3f29 }},
		{nil, "ed 5f", "F0100 F0101 1", 0x102, 7, func(r *api.Regs) { r.AF = 0x0700 }},
		{func(r *api.Regs) { r.R = 127 }, "ed 5f", "F0100 F0101 1", 0x102, 1, func(r *api.Regs) { r.AF = 0x0100 }},
		{func(r *api.Regs) { r.R = 255 }, "ed 5f", "F0100 F0101 1", 0x102, 129, func(r *api.Regs) { r.AF = 0x8180 }},
		{func(r *api.Regs) { r.R, r.IFF2 = 126, true }, "ed 5f", "F0100 F0101 1", 0x102, 0, func(r *api.Regs) { r.AF = 0x0044 }},
		{nil, "ed 67 34", "F0100 F0101 R9abc 4 W9abc=53", 0x102, 7, func(r *api.Regs) { r.AF, r.WZ = 0xa4a0, 0x9abd }},
		{carry, "ed 6f 34", "F0100 F0101 R9abc 4 W9abc=45", 0x102, 7, func(r *api.Regs) { r.AF, r.WZ = 0xa3a5, 0x9abd }},
		{func(r *api.Regs) { r.HL = 65535 }, "ed 6f 34", "F0100 F0101 Rffff 4 Wffff=45", 0x102, 7, func(r *api.Regs) { r.AF, r.WZ = 0xa3a4, 0 }},
	})
	for _, code := range []string{"ed 00", "ed 3f", "ed 77", "ed 7f", "ed 80", "ed 9b", "ed a4", "ed bf", "ed c0", "ed cb", "ed dd", "ed ed", "ed fd", "ed ff"} {
		row{nil, code, "F0100 F0101", 0x102, 7, nil}.run(t)
	}
}

func TestP12_1Modes(t *testing.T) {
	for y, mode := range []int{0, 0, 1, 2, 0, 0, 1, 2} {
		for _, was := range []int{0, 1, 2, 3, -1, math.MinInt, math.MaxInt} {
			from := func(r *api.Regs) { r.Mode = was }
			row{from, fmt.Sprintf("ed %02x", 0x46+8*y), "F0100 F0101", 0x102, 7, func(r *api.Regs) { r.Mode = mode }}.run(t)
			// Where nothing is said of it, it stays, whatever it is.
			row{from, fmt.Sprintf("ed %02x", 0x86+8*y), "F0100 F0101", 0x102, 7, nil}.run(t)
			row{from, fmt.Sprintf("%02x 5a", 0x46), "F0100 R9abc", 0x101, 6, func(r *api.Regs) { r.BC = 0x5a34 }}.run(t)
		}
	}
}

func TestP12_1Blocks(t *testing.T) {
	bc := func(n uint16) func(r *api.Regs) { return func(r *api.Regs) { r.BC = n } }
	runAll(t, []row{
		{nil, "ed a0 5a", "F0100 F0101 R9abc W5678=5a 2", 0x102, 7, func(r *api.Regs) { r.HL, r.DE, r.BC, r.AF = 0x9abd, 0x5679, 0x1233, 0xa52c }},
		{nil, "ed a8 5a", "F0100 F0101 R9abc W5678=5a 2", 0x102, 7, func(r *api.Regs) { r.HL, r.DE, r.BC, r.AF = 0x9abb, 0x5677, 0x1233, 0xa52c }},
		{bc(1), "ed b0 5a", "F0100 F0101 R9abc W5678=5a 2", 0x102, 7, func(r *api.Regs) { r.HL, r.DE, r.BC, r.AF = 0x9abd, 0x5679, 0, 0xa528 }},
		{bc(2), "ed b0 5a", "F0100 F0101 R9abc W5678=5a 2 5", 0x100, 7, func(r *api.Regs) { r.HL, r.DE, r.BC, r.AF, r.WZ = 0x9abd, 0x5679, 1, 0xa52c, 0x101 }},
		{bc(0), "ed b8 5a", "F0100 F0101 R9abc W5678=5a 2 5", 0x100, 7, func(r *api.Regs) { r.HL, r.DE, r.BC, r.AF, r.WZ = 0x9abb, 0x5677, 65535, 0xa52c, 0x101 }},
		{bc(256), "ed b8 5a", "F0100 F0101 R9abc W5678=5a 2 5", 0x100, 7, func(r *api.Regs) { r.HL, r.DE, r.BC, r.AF, r.WZ = 0x9abb, 0x5677, 255, 0xa52c, 0x101 }},
		{bc(1), "ed a8 5a", "F0100 F0101 R9abc W5678=5a 2", 0x102, 7, func(r *api.Regs) { r.HL, r.DE, r.BC, r.AF = 0x9abb, 0x5677, 0, 0xa528 }},
		{func(r *api.Regs) { r.HL, r.DE, r.PC = 65535, 65535, 65535 }, "ed b0 5a", "Fffff F0000 Rffff Wffff=5a 2 5", 65535, 7, func(r *api.Regs) { r.HL, r.DE, r.BC, r.AF, r.WZ = 0, 0, 0x1233, 0xa52c, 0 }},
		{func(r *api.Regs) { r.HL, r.DE, r.PC = 0, 0, 65534 }, "ed b8 5a", "Ffffe Fffff R0000 W0000=5a 2 5", 65534, 7, func(r *api.Regs) { r.HL, r.DE, r.BC, r.AF, r.WZ = 65535, 65535, 0x1233, 0xa52c, 65535 }},

		{nil, "ed a1 a5", "F0100 F0101 R9abc 5", 0x102, 7, func(r *api.Regs) { r.HL, r.BC, r.AF, r.WZ = 0x9abd, 0x1233, 0xa546, 0x7778 }},
		{nil, "ed a9 a5", "F0100 F0101 R9abc 5", 0x102, 7, func(r *api.Regs) { r.HL, r.BC, r.AF, r.WZ = 0x9abb, 0x1233, 0xa546, 0x7776 }},
		{nil, "ed b1 a5", "F0100 F0101 R9abc 5", 0x102, 7, func(r *api.Regs) { r.HL, r.BC, r.AF, r.WZ = 0x9abd, 0x1233, 0xa546, 0x7778 }},
		{nil, "ed b1 00", "F0100 F0101 R9abc 5 5", 0x100, 7, func(r *api.Regs) { r.HL, r.BC, r.AF, r.WZ = 0x9abd, 0x1233, 0xa586, 0x101 }},
		{bc(1), "ed b9 00", "F0100 F0101 R9abc 5", 0x102, 7, func(r *api.Regs) { r.HL, r.BC, r.AF, r.WZ = 0x9abb, 0, 0xa582, 0x7776 }},
		{bc(0), "ed b9 00", "F0100 F0101 R9abc 5 5", 0x100, 7, func(r *api.Regs) { r.HL, r.BC, r.AF, r.WZ = 0x9abb, 65535, 0xa586, 0x101 }},
		{func(r *api.Regs) { r.WZ = 65535 }, "ed a1 a5", "F0100 F0101 R9abc 5", 0x102, 7, func(r *api.Regs) { r.HL, r.BC, r.AF, r.WZ = 0x9abd, 0x1233, 0xa546, 0 }},
		{func(r *api.Regs) { r.WZ = 0 }, "ed a9 a5", "F0100 F0101 R9abc 5", 0x102, 7, func(r *api.Regs) { r.HL, r.BC, r.AF, r.WZ = 0x9abb, 0x1233, 0xa546, 65535 }},

		{nil, "ed a2 5a", "F0100 F0101 1 I1234 W9abc=5a", 0x102, 7, func(r *api.Regs) { r.HL, r.BC, r.WZ = 0x9abd, 0x1134, 0x1235 }},
		{nil, "ed aa 5a", "F0100 F0101 1 I1234 W9abc=5a", 0x102, 7, func(r *api.Regs) { r.HL, r.BC, r.AF, r.WZ = 0x9abb, 0x1134, 0xa504, 0x1233 }},
		{bc(0x0105), "ed b2 80", "F0100 F0101 1 I0105 W9abc=80", 0x102, 7, func(r *api.Regs) { r.HL, r.BC, r.AF, r.WZ = 0x9abd, 5, 0xa546, 0x106 }},
		{bc(0x0205), "ed b2 80", "F0100 F0101 1 I0205 W9abc=80 5", 0x100, 7, func(r *api.Regs) { r.HL, r.BC, r.AF, r.WZ = 0x9abd, 0x105, 0xa502, 0x206 }},
		{bc(0), "ed ba 80", "F0100 F0101 1 I0000 W9abc=80 5", 0x100, 7, func(r *api.Regs) { r.HL, r.BC, r.AF, r.WZ = 0x9abb, 0xff00, 0xa5bb, 65535 }},
		{bc(65535), "ed a2 80", "F0100 F0101 1 Iffff W9abc=80", 0x102, 7, func(r *api.Regs) { r.HL, r.BC, r.AF, r.WZ = 0x9abd, 0xfeff, 0xa5aa, 0 }},

		{nil, "ed a3 5a", "F0100 F0101 1 R9abc O1134=5a", 0x102, 7, func(r *api.Regs) { r.HL, r.BC, r.AF, r.WZ = 0x9abd, 0x1134, 0xa511, 0x1135 }},
		{nil, "ed ab 5a", "F0100 F0101 1 R9abc O1134=5a", 0x102, 7, func(r *api.Regs) { r.HL, r.BC, r.AF, r.WZ = 0x9abb, 0x1134, 0xa515, 0x1133 }},
		{nil, "ed b3 5a", "F0100 F0101 1 R9abc O1134=5a 5", 0x100, 7, func(r *api.Regs) { r.HL, r.BC, r.AF, r.WZ = 0x9abd, 0x1134, 0xa511, 0x1135 }},
		{bc(0x0134), "ed b3 5a", "F0100 F0101 1 R9abc O0034=5a", 0x102, 7, func(r *api.Regs) { r.HL, r.BC, r.AF, r.WZ = 0x9abd, 0x34, 0xa551, 0x35 }},
		{bc(256), "ed bb 5a", "F0100 F0101 1 R9abc O0000=5a", 0x102, 7, func(r *api.Regs) { r.HL, r.BC, r.AF, r.WZ = 0x9abb, 0, 0xa555, 65535 }},
	})
}

func TestP12_1ChainsOfPrefixes(t *testing.T) {
	runAll(t, []row{
		{nil, "dd fd 21 cd ab", "F0100 F0101 F0102 R0103 R0104", 0x105, 8, func(r *api.Regs) { r.IY = 0xabcd }},
		{nil, "fd dd 21 cd ab", "F0100 F0101 F0102 R0103 R0104", 0x105, 8, func(r *api.Regs) { r.IX = 0xabcd }},
		{nil, "dd dd 21 cd ab", "F0100 F0101 F0102 R0103 R0104", 0x105, 8, func(r *api.Regs) { r.IX = 0xabcd }},
		{nil, "fd fd fd fd 26 5a", "F0100 F0101 F0102 F0103 F0104 R0105", 0x106, 10, func(r *api.Regs) { r.IY = 0x5a60 }},
		{nil, "dd fd 66 05 5a", "F0100 F0101 F0102 R0103 5 R4565", 0x104, 8, func(r *api.Regs) { r.HL, r.WZ = 0x5abc, 0x4565 }},
		{nil, "dd ed 44", "F0100 F0101 F0102", 0x103, 8, func(r *api.Regs) { r.AF = 0x5b1b }},
		{nil, "fd ed 63 00 20", "F0100 F0101 F0102 R0103 R0104 W2000=bc W2001=9a", 0x105, 8, func(r *api.Regs) { r.WZ = 0x2001 }},
		{nil, "dd ed 6b 00 20 cd ab", "F0100 F0101 F0102 R0103 R0104 R2000 R2001", 0x105, 8, func(r *api.Regs) { r.HL, r.WZ = 0xabcd, 0x2001 }},
		{nil, "dd ed 62", "F0100 F0101 F0102 7", 0x103, 8, func(r *api.Regs) { r.HL, r.AF, r.WZ = 0, 0xa542, 0x9abd }},
		{nil, "fd ed 61", "F0100 F0101 F0102 O1234=9a", 0x103, 8, func(r *api.Regs) { r.WZ = 0x1235 }},
		{nil, "dd fd ed 68 5a", "F0100 F0101 F0102 F0103 I1234", 0x104, 9, func(r *api.Regs) { r.HL, r.AF, r.WZ = 0x9a5a, 0xa50c, 0x1235 }},
		{nil, "dd ed b0 5a", "F0100 F0101 F0102 R9abc W5678=5a 2 5", 0x101, 8, func(r *api.Regs) { r.HL, r.DE, r.BC, r.AF, r.WZ = 0x9abd, 0x5679, 0x1233, 0xa52c, 0x102 }},
		{nil, "dd fd cb 05 c6 00", "F0100 F0101 F0102 R0103 R0104 2 R4565 1 W4565=01", 0x105, 8, func(r *api.Regs) { r.WZ = 0x4565 }},
		{nil, "fd dd cb 05 c4 00", "F0100 F0101 F0102 R0103 R0104 2 R2345 1 W2345=01", 0x105, 8, func(r *api.Regs) { r.HL, r.WZ = 0x01bc, 0x2345 }},
		{func(r *api.Regs) { r.R = 126 }, "dd fd dd 00", "F0100 F0101 F0102 F0103", 0x104, 2, nil},
		{func(r *api.Regs) { r.R, r.PC = 254, 65534 }, "dd fd dd 00", "Ffffe Fffff F0000 F0001", 2, 130, nil},
	})
}

func TestP12_1LongChainOfPrefixes(t *testing.T) {
	got := slices.Repeat([]uint8{0xdd, 0xfd}, 70000)
	c, r, done := Next(api.Regs{PC: 7}, got)
	// 140000 is 8928 modulo 65536.
	if c != (api.Cycle{Kind: api.Fetch, Addr: 8935, T: 4}) || r != (api.Regs{}) || done {
		t.Error(c, r, done)
	}
	c, r, done = Next(api.Regs{PC: 7, IX: 5, IY: 6}, append(got, 0x23, 0))
	want := api.Regs{PC: 8936, IX: 5, IY: 7, R: uint8(140001 % 128)}
	if c != (api.Cycle{}) || r != want || !done {
		t.Error(c, r, done)
	}
}

func TestP12_1Refresh(t *testing.T) {
	for _, c := range []struct{ was, one, two uint8 }{
		{0, 1, 2}, {126, 127, 0}, {127, 0, 1}, {128, 129, 130}, {254, 255, 128}, {255, 128, 129},
	} {
		from := func(r *api.Regs) { r.R = c.was }
		row{from, "00", "F0100", 0x101, c.one, nil}.run(t)
		row{from, "dd 00", "F0100 F0101", 0x102, c.two, nil}.run(t)
		row{from, "cb c7", "F0100 F0101", 0x102, c.two, nil}.run(t)
		row{from, "ed 00", "F0100 F0101", 0x102, c.two, nil}.run(t)
		row{from, "dd cb 00 c6 01", "F0100 F0101 R0102 R0103 2 R2340 1 W2340=01", 0x104, c.two, func(r *api.Regs) { r.WZ = 0x2340 }}.run(t)
	}
}

func TestP12_1Halted(t *testing.T) {
	for _, pc := range []uint16{0, 1, 0x100, 65534, 65535} {
		for _, c := range []struct{ was, one uint8 }{{0, 1}, {127, 0}, {128, 129}, {255, 128}} {
			for _, late := range []bool{false, true} {
				r := base()
				r.Halted, r.Late, r.PC, r.R, r.IFF1, r.Mode = true, late, pc, c.was, true, 2
				want := r
				want.R = c.one
				cycle, s, done := Next(r, nil)
				if cycle != (api.Cycle{Kind: api.Fetch, Addr: pc, T: 4}) || s != (api.Regs{}) || done {
					t.Error(cycle, s, done)
				}
				// Whatever is fetched, a prefix too, nothing of it is executed.
				for _, got := range [][]uint8{{0}, {0x3e}, {0xdd}, {0x76}, {0xfb, 1, 2}, {0xcb, 0xcb}} {
					cycle, s, done = Next(r, got)
					if cycle != (api.Cycle{}) || !done {
						t.Error(cycle, done)
					}
					check(t, "halted", s, want)
				}
			}
		}
	}
}

func TestP12_1AfterIgnoresHalted(t *testing.T) {
	r := base()
	r.Halted, r.Late = true, true
	want := r
	want.Late, want.PC, want.AF = false, 0x101, 0x5a00
	l, _, s := play(t, ofAfter(r, 0x3e), []uint8{0x5a}, 0)
	if tale(l) != "R0100" {
		t.Error(tale(l))
	}
	check(t, "After of halted", s, want)

	want = r
	want.Late, want.PC, want.R, want.IX = false, 0x101, 6, 0x2341
	l, _, s = play(t, ofAfter(r, 0xdd), []uint8{0x23}, 0)
	if tale(l) != "F0100 2" {
		t.Error(tale(l))
	}
	check(t, "After of halted", s, want)
}

func TestP12_1AfterLeavesPCAndR(t *testing.T) {
	r := base()
	cycle, s, done := After(r, 0, nil)
	if cycle != (api.Cycle{}) || !done {
		t.Error(cycle, done)
	}
	check(t, "After of NOP", s, r)
	cycle, s, done = After(r, 0xff, []uint8{0})
	if cycle != (api.Cycle{Kind: api.Write, Addr: 0x7fff, Data: 1, T: 3}) || s != (api.Regs{}) || done {
		t.Error(cycle, s, done)
	}
	for _, code := range []uint8{0xcb, 0xdd, 0xed, 0xfd} {
		cycle, s, done = After(r, code, nil)
		if cycle != (api.Cycle{Kind: api.Fetch, Addr: 0x100, T: 4}) || s != (api.Regs{}) || done {
			t.Error(code, cycle, s, done)
		}
	}
}

func TestP12_1Late(t *testing.T) {
	late := func(r *api.Regs) { r.Late, r.IFF1, r.IFF2 = true, true, true }
	clear := func(r *api.Regs) { r.Late = false }
	runAll(t, []row{
		{late, "00", "F0100", 0x101, 6, clear},
		{late, "76", "F0100", 0x101, 6, func(r *api.Regs) { r.Late, r.Halted = false, true }},
		{late, "dd 00", "F0100 F0101", 0x102, 7, clear},
		{late, "ed 00", "F0100 F0101", 0x102, 7, clear},
		{late, "cb 40", "F0100 F0101", 0x102, 7, func(r *api.Regs) { r.Late, r.AF = false, 0xa554 }},
		{late, "f3", "F0100", 0x101, 6, func(r *api.Regs) { r.Late, r.IFF1, r.IFF2 = false, false, false }},
		{late, "fb", "F0100", 0x101, 6, nil},
		{late, "36 5a", "F0100 R0101 W9abc=5a", 0x102, 6, clear},
	})
}

func TestP12_1TheFirstFetchIsAskedFor(t *testing.T) {
	for _, pc := range []uint16{0, 1, 5, 65534, 65535} {
		for _, got := range [][]uint8{nil, {}} {
			c, r, done := Next(api.Regs{PC: pc, Late: true}, got)
			if c != (api.Cycle{Kind: api.Fetch, Addr: pc, T: 4}) || r != (api.Regs{}) || done {
				t.Error(pc, c, r, done)
			}
		}
	}
	c, _, _ := Next(api.Regs{PC: 5}, []uint8{0x3e})
	if c != (api.Cycle{Kind: api.Read, Addr: 6, T: 3}) {
		t.Error(c)
	}
	_, r, done := Next(api.Regs{PC: 5}, []uint8{0x3e, 7})
	if r != (api.Regs{PC: 7, R: 1, AF: 0x700}) || !done {
		t.Error(r, done)
	}
}
