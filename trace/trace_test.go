package trace

import (
	"fmt"
	"math"
	"slices"
	"strconv"
	"testing"

	"charabanc/api"
	"charabanc/step"
)

// places is addresses at which an instruction begins: of its bytes, some may be beyond 65535.
var places = []uint16{0, 1, 0x100, 0x1234, 65526, 65527, 65528, 65529, 65530, 65531, 65532, 65533, 65534, 65535}

// coded is an instruction's bytes, and its text.
type coded struct{ code, name string }

// checkAll holds Code and Line of instructions of at most 8 bytes against their rows, whatever stands around them.
func checkAll(t *testing.T, rows []coded) {
	t.Helper()
	for _, c := range rows {
		b := bytesOf(c.code)
		if len(b) > 8 {
			t.Fatalf("%s has %d bytes", c.code, len(b))
		}
		for _, at := range places {
			for _, around := range []uint8{0x00, 0xff, 0xdd, 0xcb, 0x36} {
				w := step.World{R: base(), M: laid(at, b, around)}
				w.R.PC = at
				for k, l := range forms(w.M) {
					w.M = l
					checkCode(t, fmt.Sprintf("%s at %d in %02x (list %d)", c.code, at, around, k), w, b, c.name)
				}
			}
		}
	}
}

func TestP16_1CodeAndLineOfOneByteToFour(t *testing.T) {
	checkAll(t, []coded{
		{"00", "nop"}, {"76", "halt"}, {"c9", "ret"}, {"ff", "rst 38h"}, {"86", "add a,(hl)"}, {"eb", "ex de,hl"},
		{"3e 07", "ld a,07h"}, {"18 fe", "jr $+0"}, {"10 80", "djnz $-126"}, {"cb 47", "bit 0,a"}, {"ed b0", "ldir"}, {"ed 00", "nop*"}, {"d3 02", "out (02h),a"},
		{"dd 00", "nop"}, {"dd 23", "inc ix"}, {"fd e9", "jp (iy)"}, {"dd 76", "halt"}, {"fd 7c", "ld a,iyh"},
		{"c3 34 12", "jp 1234h"}, {"32 10 00", "ld (0010h),a"}, {"cd ff ff", "call ffffh"}, {"dd 7e 80", "ld a,(ix-128)"}, {"fd 26 dd", "ld iyh,ddh"}, {"c4 dd fd", "call nz,fdddh"},
		{"dd 36 05 07", "ld (ix+5),07h"}, {"ed 43 34 12", "ld (1234h),bc"}, {"fd 21 34 12", "ld iy,1234h"}, {"dd cb 05 c0", "set 0,(ix+5),b"}, {"fd cb ff 46", "bit 0,(iy-1)"}, {"fd cb dd 76", "bit 6,(iy-35)"},
	})
}

func TestP16_1CodeHasPrefixesThatPlayNoPart(t *testing.T) {
	checkAll(t, []coded{
		{"dd dd 00", "nop"}, {"dd fd 23", "inc iy"}, {"fd dd 23", "inc ix"}, {"dd ed 44", "neg"}, {"fd ed b0", "ldir"},
		{"dd fd 21 34 12", "ld iy,1234h"}, {"fd fd dd 36 05 07", "ld (ix+5),07h"}, {"fd dd cb 05 c6", "set 0,(ix+5)"}, {"dd dd ed 43 34 12", "ld (1234h),bc"},
		{"3*dd ed 43 34 12", "ld (1234h),bc"}, {"6*fd 00", "nop"}, {"dd fd dd fd cb 05 c0", "set 0,(iy+5),b"}, {"5*dd 3e 07", "ld a,07h"},
	})
}

func TestP16_1CodeOfExactly8Bytes(t *testing.T) {
	checkAll(t, []coded{
		{"7*fd 00", "nop"}, {"7*dd 23", "inc ix"}, {"6*dd fd 23", "inc iy"}, {"6*dd 3e 07", "ld a,07h"}, {"6*dd 7e 80", "ld a,(ix-128)"},
		{"5*dd c3 34 12", "jp 1234h"}, {"5*dd 36 05 07", "ld (ix+5),07h"}, {"5*fd cb 05 c0", "set 0,(iy+5),b"}, {"4*dd ed 43 34 12", "ld (1234h),bc"}, {"6*dd ed 44", "neg"}, {"6*fd ed 77", "nop*"},
	})
}

func TestP16_1MoreThan8Bytes(t *testing.T) {
	for _, code := range []string{
		// 9 bytes: one prefix more than those of exactly 8.
		"8*fd 00", "8*dd 23", "7*dd fd 23", "7*dd 3e 07", "7*dd 7e 80", "6*dd c3 34 12", "6*dd 36 05 07", "6*fd cb 05 c0", "5*dd ed 43 34 12", "7*dd ed 44",
		// And more.
		"9*dd 00", "8*dd cb 05 c0", "8*fd ed 43 34 12", "10*dd 21 34 12", "12*dd 00", "4*dd 4*fd 76", "300*dd 00",
	} {
		b := bytesOf(code)
		for _, at := range places {
			for _, around := range []uint8{0x00, 0xff, 0xdd} {
				w := step.World{R: base(), M: laid(at, b, around)}
				w.R.PC = at
				for k, l := range forms(w.M) {
					w.M = l
					checkCode(t, fmt.Sprintf("%s at %d in %02x (list %d)", code, at, around, k), w, b[:8], "..")
				}
			}
		}
	}
}

func TestP16_1EndlessPrefixes(t *testing.T) {
	var m []api.Cell
	for at := range 65536 {
		m = append(m, api.Cell{Addr: uint16(at), Data: 0xdd + 0x20*uint8(at%2)})
	}
	for _, at := range places {
		w := step.World{R: base(), M: m}
		w.R.PC = at
		code := bytesOf("dd fd dd fd dd fd dd fd dd")[at%2:][:8]
		checkCode(t, fmt.Sprintf("endless prefixes from %d on", at), w, code, "..")
	}
}

func TestP16_1MemoriesThatAreNone(t *testing.T) {
	for _, at := range places {
		w := step.World{R: base()}
		w.R.PC = at
		for _, l := range [][]api.Cell{nil, {}, {{Addr: at}}, {{Addr: at, Data: 0x3e}, {Addr: at + 1, Data: 7}, {Addr: at + 1}, {Addr: at}}} {
			w.M = l
			checkCode(t, fmt.Sprintf("%x at %d", l, at), w, []uint8{0}, "nop")
		}
		// Zeros behind a code are operands.
		w.M = []api.Cell{{Addr: at, Data: 0xc3}}
		checkCode(t, "jp", w, []uint8{0xc3, 0, 0}, "jp 0000h")
	}
}

// changed is base with a change.
func changed(set func(r *api.Regs)) api.Regs {
	r := base()
	set(&r)
	return r
}

func TestP16_1TheLinesRegisters(t *testing.T) {
	const words = "af=a500h bc=1234h de=5678h hl=9abch ix=2340h iy=4560h sp=8000h pc=0100h i=3fh r=05h "
	for _, c := range []struct {
		r    api.Regs
		line string
	}{
		{api.Regs{}, "0000h: nop | af=0000h bc=0000h de=0000h hl=0000h ix=0000h iy=0000h sp=0000h pc=0000h i=00h r=00h im0"},
		{base(), "0100h: ld a,07h | " + words + "im0"},
		{changed(func(r *api.Regs) { r.IFF1 = true }), "0100h: ld a,07h | " + words + "im0 iff1"},
		{changed(func(r *api.Regs) { r.IFF2 = true }), "0100h: ld a,07h | " + words + "im0 iff2"},
		{changed(func(r *api.Regs) { r.Halted = true }), "0100h: ld a,07h | " + words + "im0 halt"},
		{changed(func(r *api.Regs) { r.Mode, r.IFF1, r.IFF2, r.Halted = 2, true, true, true }), "0100h: ld a,07h | " + words + "im2 iff1 iff2 halt"},
		{changed(func(r *api.Regs) { r.Mode, r.IFF2, r.Halted = 1, true, true }), "0100h: ld a,07h | " + words + "im1 iff2 halt"},
		{changed(func(r *api.Regs) { r.Mode = -1 }), "0100h: ld a,07h | " + words + "im-1"},
		{changed(func(r *api.Regs) { r.Mode = math.MinInt32 }), "0100h: ld a,07h | " + words + "im-2147483648"},
		// These are in no line.
		{changed(func(r *api.Regs) { r.AF2, r.BC2, r.DE2, r.HL2, r.WZ, r.Late = 1, 2, 3, 4, 5, false }), "0100h: ld a,07h | " + words + "im0"},
		{api.Regs{AF: 65535, BC: 65534, DE: 65533, HL: 65532, IX: 65531, IY: 65530, SP: 65529, PC: 65535, I: 255, R: 254, Mode: math.MaxInt32},
			"ffffh: ld (hl),00h | af=ffffh bc=fffeh de=fffdh hl=fffch ix=fffbh iy=fffah sp=fff9h pc=ffffh i=ffh r=feh im2147483647"},
	} {
		for _, ports := range [][]uint8{nil, {1, 2}} {
			w := step.World{R: c.r, M: []api.Cell{{Addr: 0x100, Data: 0x3e}, {Addr: 0x101, Data: 7}, {Addr: 0xffff, Data: 0x36}}, Ports: ports}
			if got := Line(w); got != c.line {
				t.Errorf("line\n%s, want\n%s", got, c.line)
			}
			checkRun(t, "one line", w, 1, []string{c.line})
		}
	}
}

func TestP16_1TheExample(t *testing.T) {
	w := step.World{M: laid(0, bytesOf("3e 07"), 0)}
	checkCode(t, "the example", w, []uint8{0x3e, 7}, "ld a,07h")
	want := "0000h: ld a,07h | af=0000h bc=0000h de=0000h hl=0000h ix=0000h iy=0000h sp=0000h pc=0000h i=00h r=00h im0"
	if got := Line(w); got != want {
		t.Errorf("line\n%s, want\n%s", got, want)
	}
}

func TestP16_3Kind(t *testing.T) {
	for k, want := range map[int]string{api.Fetch: "fetch", api.Read: "read", api.Write: "write", api.In: "in", api.Out: "out", api.Ack: "ack", api.Inner: "inner"} {
		if got := Kind(k); got != want {
			t.Errorf("kind %d is %q, want %q", k, got, want)
		}
	}
	for k, want := range []string{"?", "fetch", "read", "write", "in", "out", "ack", "inner", "?", "?"} {
		if got := Kind(k); got != want {
			t.Errorf("kind %d is %q, want %q", k, got, want)
		}
	}
}

// noKinds is numbers that are no kinds: among them some that agree with one in their last 8, 16 or 32 bits.
func noKinds() []int {
	l := []int{math.MinInt, math.MinInt + 1, math.MinInt32, -256, -255, -249, 255, 256, 257, 263, 264, 65536, 65537, 65543, math.MaxInt32, math.MaxInt - 1, math.MaxInt}
	if strconv.IntSize == 64 {
		l = append(l, math.MaxInt32*2+3, -math.MaxInt32*2)
	}
	for k := -20; k < 1; k++ {
		l = append(l, k, 8-k)
	}
	return l
}

func TestP16_3NoKinds(t *testing.T) {
	for _, k := range noKinds() {
		if got := Kind(k); got != "?" {
			t.Errorf("kind %d is %q", k, got)
		}
		if got := Cycle(api.Cycle{Kind: k, Addr: 0x12, Data: 0x34, T: 5}); got != "? 0012h 34h 5" {
			t.Errorf("a cycle of kind %d is %q", k, got)
		}
	}
}

func TestP16_3CycleRows(t *testing.T) {
	for _, c := range []struct {
		cycle api.Cycle
		want  string
	}{
		{api.Cycle{}, "? 0000h 00h 0"},
		{api.Cycle{Kind: api.Fetch, T: 4}, "fetch 0000h 00h 4"},
		{api.Cycle{Kind: api.Fetch, Addr: 0x100, Data: 0x3e, T: 4}, "fetch 0100h 3eh 4"},
		{api.Cycle{Kind: api.Read, Addr: 0x101, Data: 7, T: 3}, "read 0101h 07h 3"},
		{api.Cycle{Kind: api.Write, Addr: 0xffff, Data: 0x0a, T: 3}, "write ffffh 0ah 3"},
		{api.Cycle{Kind: api.In, Addr: 0x0701, Data: 0x5a, T: 4}, "in 0701h 5ah 4"},
		{api.Cycle{Kind: api.Out, Addr: 0x5a02, Data: 0x5a, T: 4}, "out 5a02h 5ah 4"},
		{api.Cycle{Kind: api.Ack, Addr: 5, Data: 0xff, T: 6}, "ack 0005h ffh 6"},
		{api.Cycle{Kind: api.Inner, T: 5}, "inner 0000h 00h 5"},
		{api.Cycle{Kind: api.Inner, Addr: 0xffff, Data: 0xff}, "inner ffffh ffh 0"},
		{api.Cycle{Kind: 8, Addr: 0xffff, Data: 0xff, T: 200}, "? ffffh ffh 200"},
		{api.Cycle{Kind: -1, Addr: 0xf, Data: 0x10, T: -1}, "? 000fh 10h -1"},
		{api.Cycle{Kind: api.Read, Addr: 0xff, Data: 0xf, T: -10}, "read 00ffh 0fh -10"},
		{api.Cycle{Kind: api.Read, Addr: 0xfff, Data: 0xa0, T: 2147483647}, "read 0fffh a0h 2147483647"},
		{api.Cycle{Kind: api.Read, Addr: 0xa000, Data: 0xa0, T: -2147483648}, "read a000h a0h -2147483648"},
	} {
		if got := Cycle(c.cycle); got != c.want {
			t.Errorf("%+v is %q, want %q", c.cycle, got, c.want)
		}
	}
}

func TestP16_3Cycles(t *testing.T) {
	names := []string{"?", "fetch", "read", "write", "in", "out", "ack", "inner", "?"}
	times := []int{math.MinInt, math.MinInt + 1, -1000, -1, 0, 1, 6, 10, 1000, math.MaxInt - 1, math.MaxInt}
	for k, name := range names {
		for _, states := range times {
			for data := range 256 {
				at := uint16(data * 257)
				for _, at := range []uint16{0, 0xffff, at, at + 1, at ^ 0xff} {
					got := Cycle(api.Cycle{Kind: k, Addr: at, Data: uint8(data), T: states})
					if want := fmt.Sprintf("%s %04xh %02xh %d", name, at, data, states); got != want {
						t.Fatalf("%q, want %q", got, want)
					}
				}
			}
		}
	}
	if strconv.IntSize != 64 {
		return
	}
	for states, want := range map[int]string{math.MinInt: "ack 0000h 00h -9223372036854775808", math.MaxInt: "ack 0000h 00h 9223372036854775807"} {
		if got := Cycle(api.Cycle{Kind: api.Ack, T: states}); got != want {
			t.Errorf("%q, want %q", got, want)
		}
	}
}

func TestP16_3CyclesOfAStep(t *testing.T) {
	w := step.World{M: laid(0, bytesOf("ed a2"), 0), Ports: []uint8{0x66}}
	w.R.HL, w.R.BC = 0x9abc, 0x0201
	_, cycles, _ := step.Step(w, 0, 0)
	var l []string
	for _, c := range cycles {
		l = append(l, Cycle(c))
	}
	if want := []string{"fetch 0000h edh 4", "fetch 0001h a2h 4", "in 0201h 66h 4", "write 9abch 66h 3"}; !slices.Equal(l, want) {
		t.Errorf("%q, want %q", l, want)
	}
}
