package step

import (
	"fmt"
	"slices"
	"strings"
	"testing"

	"charabanc/api"
)

func TestP15_1Reads(t *testing.T) {
	runAll(t, []row{
		{nil, 0, 0, "", "", "F0100=00", 4, 0x101, 6, nil, "", ""},
		{nil, 0, 0xff, "0100: 3e 07", "", "F0100=3e R0101=07", 7, 0x102, 6, func(r *api.Regs) { r.AF = 0x0700 }, "", ""},
		{nil, 0, 0xff, "0100: 3e", "", "F0100=3e R0101=00", 7, 0x102, 6, func(r *api.Regs) { r.AF = 0 }, "", ""},
		{nil, 0, 7, "0100: 7e; 9abc: 5a", "5a 66", "F0100=7e R9abc=5a", 7, 0x101, 6, func(r *api.Regs) { r.AF = 0x5a00 }, "", "5a 66"},
		{nil, 0, 0, "0100: 3a 10 20; 2010: 5a", "", "F0100=3a R0101=10 R0102=20 R2010=5a", 13, 0x103, 6, func(r *api.Regs) { r.AF, r.WZ = 0x5a00, 0x2011 }, "", ""},
		{nil, 0, 0, "0100: 2a ff ff; ffff: 34 12", "", "F0100=2a R0101=ff R0102=ff Rffff=34 R0000=12", 16, 0x103, 6, func(r *api.Regs) { r.HL, r.WZ = 0x1234, 0 }, "", ""},
		{nil, 0, 0, "0100: c1; 8000: cd ab", "", "F0100=c1 R8000=cd R8001=ab", 10, 0x101, 6, func(r *api.Regs) { r.BC, r.SP = 0xabcd, 0x8002 }, "", ""},
		{nil, 0, 0, "0100: dd 7e fe; 233e: 80", "", "F0100=dd F0101=7e R0102=fe R233e=80", 19, 0x103, 7, func(r *api.Regs) { r.AF, r.WZ = 0x8000, 0x233e }, "", ""},
		{nil, 0, 0, "0100: 18 fe", "", "F0100=18 R0101=fe", 12, 0x100, 6, func(r *api.Regs) { r.WZ = 0x100 }, "", ""},
		{nil, 0, 0, "0100: ed b1; 9abc: 5a", "", "F0100=ed F0101=b1 R9abc=5a", 21, 0x100, 7, func(r *api.Regs) { r.AF, r.HL, r.BC, r.WZ = 0xa53e, 0x9abd, 0x1233, 0x101 }, "", ""},
		{func(r *api.Regs) { r.PC = 65535 }, 0, 0, "ffff: 3e 07", "", "Fffff=3e R0000=07", 7, 1, 6, func(r *api.Regs) { r.AF = 0x0700 }, "", ""},
		{func(r *api.Regs) { r.PC, r.R = 0, 255 }, 0, 0, "0000: dd 21 34 12", "", "F0000=dd F0001=21 R0002=34 R0003=12", 14, 4, 129, func(r *api.Regs) { r.IX = 0x1234 }, "", ""},
	})
}

func TestP15_1Stores(t *testing.T) {
	runAll(t, []row{
		{nil, 0, 0, "0100: 32 10 20", "", "F0100=32 R0101=10 R0102=20 W2010=a5", 13, 0x103, 6, func(r *api.Regs) { r.WZ = 0xa511 }, "2010: a5", ""},
		// The byte that is there already.
		{nil, 0, 0, "0100: 32 10 20; 2010: a5", "", "F0100=32 R0101=10 R0102=20 W2010=a5", 13, 0x103, 6, func(r *api.Regs) { r.WZ = 0xa511 }, "", ""},
		// 0 where no cell is, and where one is.
		{nil, 0, 0, "0100: 36 00", "", "F0100=36 R0101=00 W9abc=00", 10, 0x102, 6, nil, "", ""},
		{nil, 0, 0, "0100: 36 00; 9abb: 01 02 03", "", "F0100=36 R0101=00 W9abc=00", 10, 0x102, 6, nil, "9abc: 00", ""},
		// Its own code.
		{func(r *api.Regs) { r.HL = 0x100 }, 0, 0, "0100: 36 12", "", "F0100=36 R0101=12 W0100=12", 10, 0x102, 6, nil, "0100: 12", ""},
		{func(r *api.Regs) { r.SP = 0x102 }, 0, 0, "0100: c5", "", "F0100=c5 W0101=12 W0100=34", 11, 0x101, 6, func(r *api.Regs) { r.SP = 0x100 }, "0100: 34 12", ""},
		{nil, 0, 0, "0100: f5", "", "F0100=f5 W7fff=a5 W7ffe=00", 11, 0x101, 6, func(r *api.Regs) { r.SP = 0x7ffe }, "7fff: a5", ""},
		{func(r *api.Regs) { r.SP = 0 }, 0, 0, "0100: e5", "", "F0100=e5 Wffff=9a Wfffe=bc", 11, 0x101, 6, func(r *api.Regs) { r.SP = 0xfffe }, "fffe: bc 9a", ""},
		{func(r *api.Regs) { r.SP = 1 }, 0, 0, "0100: e5; 0000: 5a", "", "F0100=e5 W0000=9a Wffff=bc", 11, 0x101, 6, func(r *api.Regs) { r.SP = 0xffff }, "ffff: bc 9a", ""},
		{nil, 0, 0, "0100: 22 ff ff", "", "F0100=22 R0101=ff R0102=ff Wffff=bc W0000=9a", 16, 0x103, 6, func(r *api.Regs) { r.WZ = 0 }, "ffff: bc 9a", ""},
		{nil, 0, 0, "0100: cd 34 12", "", "F0100=cd R0101=34 R0102=12 W7fff=01 W7ffe=03", 17, 0x1234, 6, func(r *api.Regs) { r.SP, r.WZ = 0x7ffe, 0x1234 }, "7ffe: 03 01", ""},
		{nil, 0, 0, "0100: ff", "", "F0100=ff W7fff=01 W7ffe=01", 11, 56, 6, func(r *api.Regs) { r.SP, r.WZ = 0x7ffe, 56 }, "7ffe: 01 01", ""},
	})
}

func TestP15_1ReadsAndStores(t *testing.T) {
	runAll(t, []row{
		{nil, 0, 0, "0100: 34; 9abc: 7f", "", "F0100=34 R9abc=7f W9abc=80", 11, 0x101, 6, func(r *api.Regs) { r.AF = 0xa594 }, "9abc: 80", ""},
		{nil, 0, 0, "0100: 34; 9abc: ff", "", "F0100=34 R9abc=ff W9abc=00", 11, 0x101, 6, func(r *api.Regs) { r.AF = 0xa550 }, "9abc: 00", ""},
		{nil, 0, 0, "0100: 34", "", "F0100=34 R9abc=00 W9abc=01", 11, 0x101, 6, nil, "9abc: 01", ""},
		{nil, 0, 0, "0100: dd 34 05; 2345: 7f", "", "F0100=dd F0101=34 R0102=05 R2345=7f W2345=80", 23, 0x103, 7, func(r *api.Regs) { r.AF, r.WZ = 0xa594, 0x2345 }, "2345: 80", ""},
		{nil, 0, 0, "0100: dd 36 05 5a", "", "F0100=dd F0101=36 R0102=05 R0103=5a W2345=5a", 19, 0x104, 7, func(r *api.Regs) { r.WZ = 0x2345 }, "2345: 5a", ""},
		{nil, 0, 0, "0100: fd cb ff 06; 455f: 81", "", "F0100=fd F0101=cb R0102=ff R0103=06 R455f=81 W455f=03", 23, 0x104, 7, func(r *api.Regs) { r.AF, r.WZ = 0xa505, 0x455f }, "455f: 03", ""},
		{nil, 0, 0, "0100: e3; 8000: 34 12", "", "F0100=e3 R8000=34 R8001=12 W8001=9a W8000=bc", 19, 0x101, 6, func(r *api.Regs) { r.HL, r.WZ = 0x1234, 0x1234 }, "8000: bc 9a", ""},
		{nil, 0, 0, "0100: ed 67; 9abc: 5a", "", "F0100=ed F0101=67 R9abc=5a W9abc=55", 18, 0x102, 7, func(r *api.Regs) { r.AF, r.WZ = 0xaaac, 0x9abd }, "9abc: 55", ""},
		{nil, 0, 0, "0100: ed b0; 9abc: 5a", "", "F0100=ed F0101=b0 R9abc=5a W5678=5a", 21, 0x100, 7, func(r *api.Regs) {
			r.AF, r.HL, r.DE, r.BC, r.WZ = 0xa52c, 0x9abd, 0x5679, 0x1233, 0x101
		}, "5678: 5a", ""},
		{func(r *api.Regs) { r.BC = 1 }, 0, 0, "0100: ed b0; 9abc: 5a", "", "F0100=ed F0101=b0 R9abc=5a W5678=5a", 16, 0x102, 7, func(r *api.Regs) {
			r.AF, r.HL, r.DE, r.BC = 0xa528, 0x9abd, 0x5679, 0
		}, "5678: 5a", ""},
	})
}

func TestP15_1Ports(t *testing.T) {
	taken := func(a uint16) func(r *api.Regs) { return func(r *api.Regs) { r.AF, r.WZ = a*256, 0xa511 } }
	const code, cycles = "0100: db 10", "F0100=db R0101=10 Ia510="
	runAll(t, []row{
		// None left, one, and more than are read.
		{nil, 0, 0, code, "", cycles + "ff", 11, 0x102, 6, taken(255), "", ""},
		{nil, 0, 0, code, "5a", cycles + "5a", 11, 0x102, 6, taken(0x5a), "", ""},
		{nil, 0, 0, code, "00", cycles + "00", 11, 0x102, 6, taken(0), "", ""},
		{nil, 0, 0, code, "5a 66", cycles + "5a", 11, 0x102, 6, taken(0x5a), "", "66"},
		{nil, 0, 0, code, "ff 00 5a 66 ff", cycles + "ff", 11, 0x102, 6, taken(255), "", "00 5a 66 ff"},
		{nil, 0, 0, "0100: ed 78", "80 01", "F0100=ed F0101=78 I1234=80", 12, 0x102, 7, func(r *api.Regs) { r.AF, r.WZ = 0x8080, 0x1235 }, "", "01"},
		{nil, 0, 0, "0100: ed 70", "", "F0100=ed F0101=70 I1234=ff", 12, 0x102, 7, func(r *api.Regs) { r.AF, r.WZ = 0xa5ac, 0x1235 }, "", ""},
		{nil, 0, 0, "0100: ed a2", "77 66", "F0100=ed F0101=a2 I1234=77 W9abc=77", 16, 0x102, 7, func(r *api.Regs) { r.BC, r.HL, r.WZ = 0x1134, 0x9abd, 0x1235 }, "9abc: 77", "66"},
		{func(r *api.Regs) { r.BC = 0x1f34 }, 0, 0, "0100: ed b2", "", "F0100=ed F0101=b2 I1f34=ff W9abc=ff", 21, 0x100, 7, func(r *api.Regs) {
			r.AF, r.BC, r.HL, r.WZ = 0xa51b, 0x1e34, 0x9abd, 0x1f35
		}, "9abc: ff", ""},
		// What goes out leaves the ports' bytes as they are.
		{nil, 0, 0, "0100: d3 10", "5a 66", "F0100=d3 R0101=10 Oa510=a5", 11, 0x102, 6, func(r *api.Regs) { r.WZ = 0xa511 }, "", "5a 66"},
		{nil, 0, 0, "0100: ed 79", "", "F0100=ed F0101=79 O1234=a5", 12, 0x102, 7, func(r *api.Regs) { r.WZ = 0x1235 }, "", ""},
		{nil, 0, 0, "0100: ed 71", "5a", "F0100=ed F0101=71 O1234=00", 12, 0x102, 7, func(r *api.Regs) { r.WZ = 0x1235 }, "", "5a"},
		{nil, 0, 0, "0100: ed a3; 9abc: 5a", "77", "F0100=ed F0101=a3 R9abc=5a O1134=5a", 16, 0x102, 7, func(r *api.Regs) {
			r.AF, r.BC, r.HL, r.WZ = 0xa511, 0x1134, 0x9abd, 0x1135
		}, "", "77"},
		// Nor does memory at the port's number play a part.
		{nil, 0, 0, "0100: db 10; a510: 99", "", cycles + "ff", 11, 0x102, 6, taken(255), "", ""},
		{nil, 0, 0, "0100: d3 10; a510: 99", "", "F0100=d3 R0101=10 Oa510=a5", 11, 0x102, 6, func(r *api.Regs) { r.WZ = 0xa511 }, "", ""},
	})
}

func TestP15_1Latches(t *testing.T) {
	halted := func(r *api.Regs) { r.Halted = true }
	stays := func(r *api.Regs) { r.Late = true }
	runAll(t, []row{
		{nil, 0, 0, "0100: 76", "5a", "F0100=76", 4, 0x101, 6, halted, "", "5a"},
		{nil, 0, 0, "0100: fb", "", "F0100=fb", 4, 0x101, 6, stays, "", ""},
		{nil, 0, 0, "0100: f3", "", "F0100=f3", 4, 0x101, 6, func(r *api.Regs) { r.IFF1, r.IFF2 = false, false }, "", ""},
		// A halted processor fetches, and stays where it is.
		{halted, 0, 0, "0100: 3e 07", "5a", "F0100=3e", 4, 0x100, 6, stays, "", "5a"},
		{halted, 0, 0, "0100: dd dd dd", "", "F0100=dd", 4, 0x100, 6, stays, "", ""},
		{halted, 0, 0, "", "", "F0100=00", 4, 0x100, 6, stays, "", ""},
	})
}

// interrupted clears what each interrupt does.
func interrupted(pc uint16) func(r *api.Regs) {
	return func(r *api.Regs) { r.Halted, r.IFF1, r.IFF2, r.SP, r.WZ = false, false, false, 0x7ffe, pc }
}

func TestP15_1NonMaskable(t *testing.T) {
	set := func(r *api.Regs) { r.Halted, r.IFF1, r.SP, r.WZ = false, false, 0x7ffe, 102 }
	for _, mode := range []int{0, 1, 2, 3, -1} {
		from := func(r *api.Regs) { r.Mode, r.Halted = mode, mode == 1 }
		runAll(t, []row{
			{from, 1, 0, "", "", "F0100=00 W7fff=01 W7ffe=00", 11, 102, 6, set, "7fff: 01", ""},
			{from, 1, 0xff, "0100: 3e 07", "5a", "F0100=3e W7fff=01 W7ffe=00", 11, 102, 6, set, "7fff: 01", "5a"},
			{from, 1, 0xcd, "0100: dd; 7ffe: 12 34 56", "", "F0100=dd W7fff=01 W7ffe=00", 11, 102, 6, set, "7ffe: 00 01", ""},
		})
	}
}

func TestP15_1MaskableInMode0(t *testing.T) {
	off := func(r *api.Regs) { r.IFF1, r.IFF2 = false, false }
	runAll(t, []row{
		{nil, 2, 0xff, "0100: 3e", "", "A0100=ff W7fff=01 W7ffe=00", 13, 56, 6, interrupted(56), "7fff: 01", ""},
		{func(r *api.Regs) { r.Halted = true }, 2, 0, "0100: 3e", "", "A0100=00", 6, 0x100, 6, func(r *api.Regs) { r.Halted, r.IFF1, r.IFF2 = false, false, false }, "", ""},
		{nil, 2, 0xcd, "0100: 34 12", "", "A0100=cd R0100=34 R0101=12 W7fff=01 W7ffe=02", 19, 0x1234, 6, interrupted(0x1234), "7ffe: 02 01", ""},
		{nil, 2, 0x3e, "0100: 5a", "66", "A0100=3e R0100=5a", 9, 0x101, 6, func(r *api.Regs) { off(r); r.AF = 0x5a00 }, "", "66"},
		{nil, 2, 0x36, "0100: 5a", "", "A0100=36 R0100=5a W9abc=5a", 12, 0x101, 6, off, "9abc: 5a", ""},
		{nil, 2, 0x7e, "0100: 5a; 9abc: 66", "", "A0100=7e R9abc=66", 9, 0x100, 6, func(r *api.Regs) { off(r); r.AF = 0x6600 }, "", ""},
		{nil, 2, 0xdb, "0100: 10", "5a 66", "A0100=db R0100=10 Ia510=5a", 13, 0x101, 6, func(r *api.Regs) { off(r); r.AF, r.WZ = 0x5a00, 0xa511 }, "", "66"},
		{nil, 2, 0xdb, "0100: 10", "", "A0100=db R0100=10 Ia510=ff", 13, 0x101, 6, func(r *api.Regs) { off(r); r.AF, r.WZ = 0xff00, 0xa511 }, "", ""},
		{nil, 2, 0xd3, "0100: 10", "5a", "A0100=d3 R0100=10 Oa510=a5", 13, 0x101, 6, func(r *api.Regs) { off(r); r.WZ = 0xa511 }, "", "5a"},
		{nil, 2, 0xe3, "8000: 34 12", "", "A0100=e3 R8000=34 R8001=12 W8001=9a W8000=bc", 21, 0x100, 6, func(r *api.Regs) { off(r); r.HL, r.WZ = 0x1234, 0x1234 }, "8000: bc 9a", ""},
		{nil, 2, 0xfb, "", "", "A0100=fb", 6, 0x100, 6, func(r *api.Regs) { r.Late = true }, "", ""},
		{nil, 2, 0x76, "", "", "A0100=76", 6, 0x100, 6, func(r *api.Regs) { off(r); r.Halted = true }, "", ""},
		// Behind a prefix nothing more happens.
		{nil, 2, 0xdd, "0100: dd dd 36 05", "5a", "A0100=dd", 6, 0x100, 6, off, "", "5a"},
		{nil, 2, 0xed, "0100: b0", "", "A0100=ed", 6, 0x100, 6, off, "", ""},
		{nil, 2, 0xcb, "0100: c6", "", "A0100=cb", 6, 0x100, 6, off, "", ""},
		{nil, 2, 0xfd, "0100: e5", "", "A0100=fd", 6, 0x100, 6, off, "", ""},
	})
}

func TestP15_1MaskableInOtherModes(t *testing.T) {
	in := func(mode int, i uint8, sp uint16) func(r *api.Regs) {
		return func(r *api.Regs) { r.Mode, r.I, r.SP, r.Halted = mode, i, sp, i == 0x20 }
	}
	to := func(pc, sp uint16) func(r *api.Regs) {
		return func(r *api.Regs) { interrupted(pc)(r); r.SP = sp }
	}
	runAll(t, []row{
		{in(1, 0x20, 0x8000), 2, 0, "0100: 3e", "5a", "A0100=00 W7fff=01 W7ffe=00", 13, 56, 6, to(56, 0x7ffe), "7fff: 01", "5a"},
		{in(1, 0x20, 0x8000), 2, 0xcd, "0100: 3e", "", "A0100=cd W7fff=01 W7ffe=00", 13, 56, 6, to(56, 0x7ffe), "7fff: 01", ""},
	})
	for _, mode := range []int{2, 3, -1} {
		runAll(t, []row{
			{in(mode, 0x20, 0x8000), 2, 0xfe, "20fe: 34 12", "5a", "A0100=fe W7fff=01 W7ffe=00 R20fe=34 R20ff=12", 19, 0x1234, 6, to(0x1234, 0x7ffe), "7fff: 01", "5a"},
			{in(mode, 0xff, 0x8000), 2, 0xff, "ffff: 34 12", "", "A0100=ff W7fff=01 W7ffe=00 Rffff=34 R0000=12", 19, 0x1234, 6, to(0x1234, 0x7ffe), "7fff: 01", ""},
			{in(mode, 0, 0x8000), 2, 0, "", "", "A0100=00 W7fff=01 W7ffe=00 R0000=00 R0001=00", 19, 0, 6, to(0, 0x7ffe), "7fff: 01", ""},
			// What is read was written in the same step: both bytes, the higher one alone, the lower one alone.
			{in(mode, 0x20, 0x2100), 2, 0xfe, "20fe: 34 12", "", "A0100=fe W20ff=01 W20fe=00 R20fe=00 R20ff=01", 19, 0x100, 6, to(0x100, 0x20fe), "20fe: 00 01", ""},
			{in(mode, 0x20, 0x2100), 2, 0xff, "20fe: 34 12 56", "", "A0100=ff W20ff=01 W20fe=00 R20ff=01 R2100=56", 19, 0x5601, 6, to(0x5601, 0x20fe), "20fe: 00 01", ""},
			{in(mode, 0x20, 0x2100), 2, 0xfd, "20fd: 34 12 56", "", "A0100=fd W20ff=01 W20fe=00 R20fd=34 R20fe=00", 19, 0x34, 6, to(0x34, 0x20fe), "20fe: 00 01", ""},
			{in(mode, 0x20, 0x2002), 2, 0, "", "", "A0100=00 W2001=01 W2000=00 R2000=00 R2001=01", 19, 0x100, 6, to(0x100, 0x2000), "2001: 01", ""},
		})
	}
}

// prefixes is so many of them from an address on, what stands behind them, and a byte to be read.
func prefixes(m *image, at uint16, n int, behind string) *image {
	for range n {
		m[at] = 0xdd + 0x20*uint8(n%2)
		at++
	}
	return m.written(fmt.Sprintf("%04x: %s; 9abc: 5a", at, behind))
}

// long is a row of which the cycles begin with the Fetches of prefixes.
type long struct {
	n      int
	behind string
	from   func(r *api.Regs)
	ports  string
	cycles string
	states int
	ends   bool
	set    func(r *api.Regs)
	stored string
	left   string
}

func (c long) run(t *testing.T, at uint16) {
	t.Helper()
	what := fmt.Sprintf("%d prefixes and %s at %04x", c.n, c.behind, at)
	w := World{R: base(), M: prefixes(new(image), at, c.n, c.behind).memory(), Ports: bytesOf(c.ports)}
	w.R.PC = at
	if c.from != nil {
		c.from(&w.R)
	}
	var cycles []string
	m := imageOf(w.M)
	for k := range min(c.n, 200) {
		cycles = append(cycles, fmt.Sprintf("F%04x=%02x", at+uint16(k), m[at+uint16(k)]))
	}
	for k, text := range strings.Fields(c.cycles) {
		if text[1:5] == "next" {
			text = fmt.Sprintf("%c%04x%s", text[0], at+uint16(c.n+k), text[5:])
		}
		cycles = append(cycles, text)
	}
	want := World{R: w.R, M: m.written(c.stored).memory(), Ports: bytesOf(c.left)}
	if c.ends {
		want.R.Late = false
		want.R.PC = at + uint16(c.n+len(bytesOf(c.behind)))
		fetches := c.n + 1
		if c.behind[0] == 'e' {
			fetches++
		}
		want.R.R = uint8((5 + fetches) % 128)
		if c.set != nil {
			c.set(&want.R)
		}
	}
	for _, which := range neither {
		g := guard(w)
		got, l, states := Step(g, which, 0xff)
		checkGuard(t, what, g, w)
		checkWorld(t, what, got, want)
		if tale(l) != strings.Join(cycles, " ") || states != c.states {
			t.Errorf("%s: %s in %d states, want %s in %d", what, tale(l), states, strings.Join(cycles, " "), c.states)
		}
	}
}

func TestP15_1UpTo200Cycles(t *testing.T) {
	one := func(r *api.Regs) { r.BC = 1 }
	two := func(r *api.Regs) { r.BC = 2 }
	last := func(r *api.Regs) { r.BC = 0x0134 }
	moved := func(r *api.Regs) { r.AF, r.HL, r.DE, r.BC = 0xa528, 0x9abd, 0x5679, 0 }
	const ldir, outi, inir = "Fnext=ed Fnext=b0 R9abc=5a W5678=5a", "Fnext=ed Fnext=a3 R9abc=5a", "Fnext=ed Fnext=b2"
	for _, at := range []uint16{0x100, 0x400, 0xff80} {
		for _, c := range []long{
			// NOP is a cycle, LD A a cycle and another one.
			{198, "00", nil, "", "Fnext=00", 199 * 4, true, nil, "", ""},
			{199, "00", nil, "5a", "Fnext=00", 200 * 4, true, nil, "", "5a"},
			{200, "00", nil, "5a", "", 200 * 4, false, nil, "", "5a"},
			{201, "00", nil, "", "", 200 * 4, false, nil, "", ""},
			{250, "00", nil, "", "", 200 * 4, false, nil, "", ""},
			{198, "3e 07", nil, "", "Fnext=3e Rnext=07", 199*4 + 3, true, func(r *api.Regs) { r.AF = 0x0700 }, "", ""},
			{199, "3e 07", nil, "", "Fnext=3e", 200 * 4, false, nil, "", ""},
			// LDIR is two Fetches, a Read, a Write and states within; and once more, if it goes on.
			{195, "ed b0", one, "", ldir, 197*4 + 3 + 3 + 2, true, moved, "5678: 5a", ""},
			{194, "ed b0", two, "", ldir, 196*4 + 3 + 3 + 2 + 5, true, func(r *api.Regs) {
				r.AF, r.HL, r.DE, r.BC, r.WZ, r.PC = 0xa52c, 0x9abd, 0x5679, 1, at+195, at+194
			}, "5678: 5a", ""},
			{195, "ed b0", two, "", ldir, 197*4 + 3 + 3 + 2, false, nil, "5678: 5a", ""},
			{196, "ed b0", one, "", ldir, 198*4 + 3 + 3, false, nil, "5678: 5a", ""},
			{197, "ed b0", one, "", "Fnext=ed Fnext=b0 R9abc=5a", 199*4 + 3, false, nil, "", ""},
			{198, "ed b0", one, "", "Fnext=ed Fnext=b0", 200 * 4, false, nil, "", ""},
			// INIR is two Fetches, states within, an In and a Write; and states within, if it goes on. What was taken, and what was stored, stays so.
			{195, "ed b2", last, "77 66", inir + " I0134=77 W9abc=77", 197*4 + 1 + 4 + 3, true, func(r *api.Regs) {
				r.AF, r.BC, r.HL, r.WZ = 0xa540, 0x0034, 0x9abd, 0x0135
			}, "9abc: 77", "66"},
			{195, "ed b2", nil, "77 66", inir + " I1234=77 W9abc=77", 197*4 + 1 + 4 + 3, false, nil, "9abc: 77", "66"},
			{196, "ed b2", last, "77 66", inir + " I0134=77", 198*4 + 1 + 4, false, nil, "", "66"},
			{196, "ed b2", last, "", inir + " I0134=ff", 198*4 + 1 + 4, false, nil, "", ""},
			{197, "ed b2", last, "77 66", inir, 199*4 + 1, false, nil, "", "77 66"},
			// OUTI is two Fetches, states within, a Read and an Out.
			{195, "ed a3", last, "", outi + " O0034=5a", 197*4 + 1 + 3 + 4, true, func(r *api.Regs) {
				r.AF, r.BC, r.HL, r.WZ = 0xa551, 0x0034, 0x9abd, 0x0035
			}, "", ""},
			{196, "ed a3", last, "", outi, 198*4 + 1 + 3, false, nil, "", ""},
		} {
			c.run(t, at)
		}
	}
}

func TestP15_1EndlessPrefixes(t *testing.T) {
	for _, prefix := range []uint8{0xdd, 0xfd} {
		var m image
		for at := range m {
			m[at] = prefix
		}
		m[7] ^= 0x20
		for _, pc := range []uint16{0, 0x1234, 65400, 65535} {
			r := base()
			r.PC = pc
			w := World{R: r, M: m.memory(), Ports: []uint8{1, 2, 3}}
			got, l, states := Step(w, 0, 0)
			checkWorld(t, "endless prefixes", got, w)
			if len(l) != 200 || states != 800 {
				t.Errorf("%d cycles, %d states", len(l), states)
			}
			for k, c := range l {
				at := pc + uint16(k)
				if c != (api.Cycle{Kind: api.Fetch, Addr: at, Data: m[at], T: 4}) {
					t.Errorf("cycle %d at %d: %+v", k, pc, c)
				}
			}
			// An interrupt comes to its end.
			if _, l, states := Step(w, 1, 0); len(l) != 3 || states != 11 {
				t.Errorf("%d cycles, %d states", len(l), states)
			}
		}
	}
}

func TestP15_1TheExamples(t *testing.T) {
	w := World{M: memoryOf("0000: 3e 07 32 10 00")}
	one, l, states := Step(w, 0, 0)
	checkWorld(t, "the first instruction", one, World{R: api.Regs{PC: 2, R: 1, AF: 0x700}, M: w.M})
	if tale(l) != "F0000=3e R0001=07" || states != 7 {
		t.Error(tale(l), states)
	}
	two, l, states := Step(one, 0, 0)
	checkWorld(t, "the second one", two, World{R: api.Regs{PC: 5, R: 2, AF: 0x700, WZ: 0x711}, M: memoryOf("0000: 3e 07 32 10 00; 0010: 07")})
	if tale(l) != "F0002=32 R0003=10 R0004=00 W0010=07" || states != 13 {
		t.Error(tale(l), states)
	}
	both, states := Run(w, 2)
	checkWorld(t, "both", both, two)
	if states != 20 {
		t.Error(states)
	}
	empty, l, states := Step(World{}, 0, 0)
	checkWorld(t, "the empty world", empty, World{R: api.Regs{PC: 1, R: 1}})
	if !slices.Equal(l, []api.Cycle{{Kind: api.Fetch, T: 4}}) || states != 4 {
		t.Error(l, states)
	}
}
