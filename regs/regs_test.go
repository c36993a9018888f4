package regs

import (
	"fmt"
	"math"
	"reflect"
	"slices"
	"strings"
	"testing"

	"charabanc/api"
)

// planes is the seven planes.
var planes = []int{api.Plain, api.CB, api.ED, api.DD, api.FD, api.DDCB, api.FDCB}

// others is numbers that are no planes, among them ones that are planes modulo 8, 256 and 2^32.
var others = []int{
	-1, -2, -3, -4, -5, -7, -8, -252, -253, -256, math.MinInt32, math.MinInt, math.MinInt + 1, math.MinInt + 3, math.MinInt + 4,
	7, 8, 9, 11, 12, 13, 15, 16, 255, 256, 257, 259, 260, 1<<32 + 3, 1<<32 + 4, math.MaxInt32, math.MaxInt - 1, math.MaxInt,
}

// noPairs is numbers of which there is no pair, among them ones that are pairs modulo 4, 256 and 2^32.
var noPairs = []int{
	-1, -2, -3, -4, -5, -8, -253, -254, -256, math.MinInt32, math.MinInt, math.MinInt + 1, math.MinInt + 2,
	4, 5, 6, 7, 8, 9, 10, 16, 255, 256, 257, 258, 1 << 32, 1<<32 + 2, math.MaxInt32, math.MaxInt - 1, math.MaxInt,
}

// noRegisters is numbers of which there is no register, among them ones that are registers modulo 8, 256 and 2^32.
var noRegisters = []int{
	6, -1, -2, -3, -4, -7, -8, -9, -249, -252, -256, math.MinInt32, math.MinInt, math.MinInt + 1, math.MinInt + 4, math.MinInt + 7,
	8, 9, 10, 12, 13, 14, 15, 16, 23, 255, 256, 260, 263, 1 << 32, 1<<32 + 4, 1<<32 + 7, math.MaxInt32, math.MaxInt - 1, math.MaxInt,
}

// words is words at the edges, and some others.
var words = []uint16{0, 1, 2, 127, 128, 254, 255, 256, 257, 0x1234, 32767, 32768, 0xa55a, 0xfeff, 0xff00, 65534, 65535}

// distinct is registers of which no two fields, and no two bytes, are equal, and nothing is 0 or false.
func distinct() api.Regs {
	return api.Regs{
		AF: 0x0102, BC: 0x0304, DE: 0x0506, HL: 0x0708,
		AF2: 0x090a, BC2: 0x0b0c, DE2: 0x0d0e, HL2: 0x0f10,
		IX: 0x1112, IY: 0x1314, SP: 0x1516, PC: 0x1718, WZ: 0x191a,
		I: 0x1b, R: 0x9c,
		IFF1: true, IFF2: true, Halted: true, Late: true,
		Mode: 2,
	}
}

// full is registers in which all bits are set.
func full() api.Regs {
	return api.Regs{
		AF: 65535, BC: 65535, DE: 65535, HL: 65535,
		AF2: 65535, BC2: 65535, DE2: 65535, HL2: 65535,
		IX: 65535, IY: 65535, SP: 65535, PC: 65535, WZ: 65535,
		I: 255, R: 255,
		IFF1: true, IFF2: true, Halted: true, Late: true,
		Mode: math.MaxInt,
	}
}

// samples is some registers.
func samples() []api.Regs {
	return []api.Regs{
		{},
		distinct(),
		full(),
		{AF: 0xff00, BC: 0x00ff, DE: 0x8001, HL: 0x7ffe, IX: 0x0100, IY: 0xfffe, SP: 0x8000, R: 0x80, IFF2: true, Mode: 1},
		{AF2: 0x1234, BC2: 0x5678, DE2: 0x9abc, HL2: 0xdef0, PC: 0x0038, WZ: 0xa5a5, I: 0x3f, R: 0x7f, IFF1: true, Late: true, Mode: -7},
	}
}

// pairField is the field of a pair, by the document's words.
func pairField(plane, p int) string {
	if p == 2 && plane == 3 {
		return "IX"
	}
	if p == 2 && plane == 4 {
		return "IY"
	}
	return []string{"BC", "DE", "HL", "SP"}[p]
}

// registers is the numbers of the registers.
var registers = []int{0, 1, 2, 3, 4, 5, 7}

// registerField is the field of a register, by the document's words, and whether it is the high byte of it.
func registerField(plane, k int) (string, bool) {
	if k == 7 {
		return "AF", true
	}
	return pairField(plane, k/2), k == 0 || k == 2 || k == 4
}

// field is a field of registers, by its name.
func field(r api.Regs, name string) uint16 {
	return uint16(reflect.ValueOf(r).FieldByName(name).Uint())
}

// withField is registers with another field.
func withField(r api.Regs, name string, w uint16) api.Regs {
	reflect.ValueOf(&r).Elem().FieldByName(name).SetUint(uint64(w))
	return r
}

// byteOf is one half of a word, by division.
func byteOf(w uint16, high bool) uint8 {
	if high {
		return uint8(w / 256)
	}
	return uint8(w % 256)
}

// withByte is a word with another half, in whole numbers.
func withByte(w uint16, high bool, b uint8) uint16 {
	if high {
		return uint16(b)*256 + w%256
	}
	return w/256*256 + uint16(b)
}

// check fails for each field that isn't the one that is wanted.
func check(t *testing.T, what string, got, want api.Regs) {
	t.Helper()
	g, w := reflect.ValueOf(got), reflect.ValueOf(want)
	for n := range g.NumField() {
		if a, b := g.Field(n).Interface(), w.Field(n).Interface(); a != b {
			t.Fatalf("%s: %s is %v, want %v", what, g.Type().Field(n).Name, a, b)
		}
	}
}

func TestP11_1PairsOfEachPlane(t *testing.T) {
	r := distinct()
	for _, c := range []struct {
		plane int
		pairs [4]uint16
	}{
		{api.Plain, [4]uint16{0x0304, 0x0506, 0x0708, 0x1516}},
		{api.CB, [4]uint16{0x0304, 0x0506, 0x0708, 0x1516}},
		{api.ED, [4]uint16{0x0304, 0x0506, 0x0708, 0x1516}},
		{api.DD, [4]uint16{0x0304, 0x0506, 0x1112, 0x1516}},
		{api.FD, [4]uint16{0x0304, 0x0506, 0x1314, 0x1516}},
		{api.DDCB, [4]uint16{0x0304, 0x0506, 0x0708, 0x1516}},
		{api.FDCB, [4]uint16{0x0304, 0x0506, 0x0708, 0x1516}},
		{-1, [4]uint16{0x0304, 0x0506, 0x0708, 0x1516}},
		{7, [4]uint16{0x0304, 0x0506, 0x0708, 0x1516}},
		{math.MinInt, [4]uint16{0x0304, 0x0506, 0x0708, 0x1516}},
		{math.MaxInt, [4]uint16{0x0304, 0x0506, 0x0708, 0x1516}},
	} {
		for p, want := range c.pairs {
			if w := Pair(r, c.plane, p); w != want {
				t.Errorf("Pair(r, %d, %d) = %#x, want %#x", c.plane, p, w, want)
			}
		}
	}
}

func TestP11_1PairsOfAllPlanes(t *testing.T) {
	for _, r := range samples() {
		for _, plane := range slices.Concat(planes, others) {
			for p := range 4 {
				want := field(r, pairField(plane, p))
				if w := Pair(r, plane, p); w != want {
					t.Fatalf("Pair(%+v, %d, %d) = %#x, want %#x", r, plane, p, w, want)
				}
			}
		}
	}
}

func TestP11_1SetPairAtTheEdges(t *testing.T) {
	r := distinct()
	for _, c := range []struct {
		plane, p int
		w        uint16
		set      func(r *api.Regs)
	}{
		{api.Plain, 0, 0, func(r *api.Regs) { r.BC = 0 }},
		{api.Plain, 1, 1, func(r *api.Regs) { r.DE = 1 }},
		{api.Plain, 2, 255, func(r *api.Regs) { r.HL = 255 }},
		{api.Plain, 3, 256, func(r *api.Regs) { r.SP = 256 }},
		{api.CB, 2, 65535, func(r *api.Regs) { r.HL = 65535 }},
		{api.ED, 2, 65535, func(r *api.Regs) { r.HL = 65535 }},
		{api.DD, 0, 7, func(r *api.Regs) { r.BC = 7 }},
		{api.DD, 1, 7, func(r *api.Regs) { r.DE = 7 }},
		{api.DD, 2, 65535, func(r *api.Regs) { r.IX = 65535 }},
		{api.DD, 3, 7, func(r *api.Regs) { r.SP = 7 }},
		{api.FD, 0, 7, func(r *api.Regs) { r.BC = 7 }},
		{api.FD, 1, 7, func(r *api.Regs) { r.DE = 7 }},
		{api.FD, 2, 0, func(r *api.Regs) { r.IY = 0 }},
		{api.FD, 3, 7, func(r *api.Regs) { r.SP = 7 }},
		{api.DDCB, 2, 1, func(r *api.Regs) { r.HL = 1 }},
		{api.FDCB, 2, 1, func(r *api.Regs) { r.HL = 1 }},
		{-1, 2, 1, func(r *api.Regs) { r.HL = 1 }},
		{7, 2, 1, func(r *api.Regs) { r.HL = 1 }},
		{math.MinInt, 3, 1, func(r *api.Regs) { r.SP = 1 }},
		{math.MaxInt, 0, 1, func(r *api.Regs) { r.BC = 1 }},
	} {
		want := r
		c.set(&want)
		check(t, fmt.Sprintf("SetPair(r, %d, %d, %d)", c.plane, c.p, c.w), SetPair(r, c.plane, c.p, c.w), want)
	}
}

func TestP11_1SetPairOfAllPlanes(t *testing.T) {
	for _, r := range samples() {
		for _, plane := range slices.Concat(planes, others) {
			for p := range 4 {
				for _, w := range words {
					want := withField(r, pairField(plane, p), w)
					check(t, fmt.Sprintf("SetPair(%+v, %d, %d, %d)", r, plane, p, w), SetPair(r, plane, p, w), want)
				}
			}
		}
	}
}

func TestP11_1NoOtherPair(t *testing.T) {
	for _, r := range samples() {
		for _, plane := range slices.Concat(planes, others) {
			for _, p := range noPairs {
				if w := Pair(r, plane, p); w != 0 {
					t.Fatalf("Pair(%+v, %d, %d) = %#x, want 0", r, plane, p, w)
				}
				for _, w := range words {
					check(t, fmt.Sprintf("SetPair(r, %d, %d, %d)", plane, p, w), SetPair(r, plane, p, w), r)
				}
			}
		}
	}
}

func TestP11_1RegistersOfEachPlane(t *testing.T) {
	r := distinct()
	for _, c := range []struct {
		plane int
		bytes [9]uint8
	}{
		{api.Plain, [9]uint8{3, 4, 5, 6, 7, 8, 0, 1, 0}},
		{api.CB, [9]uint8{3, 4, 5, 6, 7, 8, 0, 1, 0}},
		{api.ED, [9]uint8{3, 4, 5, 6, 7, 8, 0, 1, 0}},
		{api.DD, [9]uint8{3, 4, 5, 6, 0x11, 0x12, 0, 1, 0}},
		{api.FD, [9]uint8{3, 4, 5, 6, 0x13, 0x14, 0, 1, 0}},
		{api.DDCB, [9]uint8{3, 4, 5, 6, 7, 8, 0, 1, 0}},
		{api.FDCB, [9]uint8{3, 4, 5, 6, 7, 8, 0, 1, 0}},
		{-1, [9]uint8{3, 4, 5, 6, 7, 8, 0, 1, 0}},
		{7, [9]uint8{3, 4, 5, 6, 7, 8, 0, 1, 0}},
		{math.MinInt, [9]uint8{3, 4, 5, 6, 7, 8, 0, 1, 0}},
		{math.MaxInt, [9]uint8{3, 4, 5, 6, 7, 8, 0, 1, 0}},
	} {
		for k, want := range c.bytes {
			if b := Get(r, c.plane, k); b != want {
				t.Errorf("Get(r, %d, %d) = %#x, want %#x", c.plane, k, b, want)
			}
		}
	}
}

func TestP11_1RegistersOfAllPlanes(t *testing.T) {
	for _, r := range samples() {
		for _, plane := range slices.Concat(planes, others) {
			for _, k := range registers {
				name, high := registerField(plane, k)
				want := byteOf(field(r, name), high)
				if b := Get(r, plane, k); b != want {
					t.Fatalf("Get(%+v, %d, %d) = %#x, want %#x", r, plane, k, b, want)
				}
			}
		}
	}
}

func TestP11_1SetAtTheEdges(t *testing.T) {
	r := distinct()
	for _, c := range []struct {
		plane, k int
		b        uint8
		set      func(r *api.Regs)
	}{
		{api.Plain, 0, 0, func(r *api.Regs) { r.BC = 0x0004 }},
		{api.Plain, 1, 255, func(r *api.Regs) { r.BC = 0x03ff }},
		{api.Plain, 2, 1, func(r *api.Regs) { r.DE = 0x0106 }},
		{api.Plain, 3, 0, func(r *api.Regs) { r.DE = 0x0500 }},
		{api.Plain, 4, 255, func(r *api.Regs) { r.HL = 0xff08 }},
		{api.Plain, 5, 1, func(r *api.Regs) { r.HL = 0x0701 }},
		{api.Plain, 7, 255, func(r *api.Regs) { r.AF = 0xff02 }},
		{api.Plain, 7, 0, func(r *api.Regs) { r.AF = 0x0002 }},
		{api.CB, 4, 18, func(r *api.Regs) { r.HL = 0x1208 }},
		{api.ED, 5, 18, func(r *api.Regs) { r.HL = 0x0712 }},
		{api.DD, 3, 18, func(r *api.Regs) { r.DE = 0x0512 }},
		{api.DD, 4, 18, func(r *api.Regs) { r.IX = 0x1212 }},
		{api.DD, 4, 255, func(r *api.Regs) { r.IX = 0xff12 }},
		{api.DD, 5, 0, func(r *api.Regs) { r.IX = 0x1100 }},
		{api.DD, 7, 18, func(r *api.Regs) { r.AF = 0x1202 }},
		{api.FD, 2, 18, func(r *api.Regs) { r.DE = 0x1206 }},
		{api.FD, 4, 0, func(r *api.Regs) { r.IY = 0x0014 }},
		{api.FD, 5, 255, func(r *api.Regs) { r.IY = 0x13ff }},
		{api.FD, 7, 18, func(r *api.Regs) { r.AF = 0x1202 }},
		{api.DDCB, 4, 1, func(r *api.Regs) { r.HL = 0x0108 }},
		{api.FDCB, 5, 1, func(r *api.Regs) { r.HL = 0x0701 }},
		{-1, 4, 1, func(r *api.Regs) { r.HL = 0x0108 }},
		{7, 5, 2, func(r *api.Regs) { r.HL = 0x0702 }},
		{math.MinInt, 7, 3, func(r *api.Regs) { r.AF = 0x0302 }},
		{math.MaxInt, 0, 2, func(r *api.Regs) { r.BC = 0x0204 }},
		{api.Plain, 6, 255, func(r *api.Regs) {}},
		{api.DD, 6, 255, func(r *api.Regs) {}},
		{api.FD, 8, 255, func(r *api.Regs) {}},
		{api.Plain, -1, 255, func(r *api.Regs) {}},
	} {
		want := r
		c.set(&want)
		check(t, fmt.Sprintf("Set(r, %d, %d, %d)", c.plane, c.k, c.b), Set(r, c.plane, c.k, c.b), want)
	}
}

func TestP11_1SetOfAllPlanesAndBytes(t *testing.T) {
	for _, r := range samples() {
		for _, plane := range slices.Concat(planes, others) {
			for _, k := range registers {
				name, high := registerField(plane, k)
				for b := range 256 {
					want := withField(r, name, withByte(field(r, name), high, uint8(b)))
					if s := Set(r, plane, k, uint8(b)); s != want {
						check(t, fmt.Sprintf("Set(%+v, %d, %d, %d)", r, plane, k, b), s, want)
					}
				}
			}
		}
	}
}

func TestP11_1NoOtherRegister(t *testing.T) {
	for _, r := range samples() {
		for _, plane := range slices.Concat(planes, others) {
			for _, k := range noRegisters {
				if b := Get(r, plane, k); b != 0 {
					t.Fatalf("Get(%+v, %d, %d) = %#x, want 0", r, plane, k, b)
				}
				for _, b := range []uint8{0, 1, 127, 128, 255} {
					check(t, fmt.Sprintf("Set(r, %d, %d, %d)", plane, k, b), Set(r, plane, k, b), r)
				}
			}
		}
	}
}

func TestP11_2Exx(t *testing.T) {
	want := distinct()
	want.BC, want.DE, want.HL = 0x0b0c, 0x0d0e, 0x0f10
	want.BC2, want.DE2, want.HL2 = 0x0304, 0x0506, 0x0708
	check(t, "Exx", Exx(distinct()), want)
	check(t, "Exx of nothing", Exx(api.Regs{}), api.Regs{})
	check(t, "Exx of all bits", Exx(full()), full())
}

func TestP11_2Swap(t *testing.T) {
	want := distinct()
	want.AF, want.AF2 = 0x090a, 0x0102
	check(t, "Swap", Swap(distinct()), want)
	check(t, "Swap of nothing", Swap(api.Regs{}), api.Regs{})
	check(t, "Swap of all bits", Swap(full()), full())
}

func TestP11_2TickAtTheEdges(t *testing.T) {
	// The R's behind 0, 127, 128 and 255; the greatest int is 127 modulo 128, and the least one 0.
	for _, c := range []struct {
		n    int
		want [4]uint8
	}{
		{0, [4]uint8{0, 127, 128, 255}},
		{1, [4]uint8{1, 0, 129, 128}},
		{2, [4]uint8{2, 1, 130, 129}},
		{127, [4]uint8{127, 126, 255, 254}},
		{128, [4]uint8{0, 127, 128, 255}},
		{129, [4]uint8{1, 0, 129, 128}},
		{255, [4]uint8{127, 126, 255, 254}},
		{256, [4]uint8{0, 127, 128, 255}},
		{257, [4]uint8{1, 0, 129, 128}},
		{-1, [4]uint8{127, 126, 255, 254}},
		{-2, [4]uint8{126, 125, 254, 253}},
		{-127, [4]uint8{1, 0, 129, 128}},
		{-128, [4]uint8{0, 127, 128, 255}},
		{-129, [4]uint8{127, 126, 255, 254}},
		{-256, [4]uint8{0, 127, 128, 255}},
		{math.MinInt, [4]uint8{0, 127, 128, 255}},
		{math.MinInt + 1, [4]uint8{1, 0, 129, 128}},
		{math.MaxInt, [4]uint8{127, 126, 255, 254}},
		{math.MaxInt - 1, [4]uint8{126, 125, 254, 253}},
	} {
		for i, was := range []uint8{0, 127, 128, 255} {
			r := distinct()
			r.R = was
			want := r
			want.R = c.want[i]
			check(t, fmt.Sprintf("Tick of R %d by %d", was, c.n), Tick(r, c.n), want)
		}
	}
}

func TestP11_2TickOfAllBytes(t *testing.T) {
	far := []int{math.MinInt, math.MinInt + 1, math.MinInt + 127, math.MinInt32, math.MaxInt32, 1 << 32, 1<<32 + 5, math.MaxInt - 128, math.MaxInt}
	for n := -300; n <= 300; n++ {
		far = append(far, n)
	}
	for _, n := range far {
		// By a rest that is taken first, so that nothing wraps around.
		rest := (n%128 + 128) % 128
		for b := range 256 {
			r := distinct()
			r.R = uint8(b)
			want := r
			want.R = uint8(b/128*128 + (b%128+rest)%128)
			if s := Tick(r, n); s != want {
				check(t, fmt.Sprintf("Tick of R %d by %d", b, n), s, want)
			}
		}
	}
}

func TestP11_2Reset(t *testing.T) {
	want := distinct()
	want.PC, want.I, want.R, want.Mode = 0, 0, 0, 0
	want.IFF1, want.IFF2, want.Halted, want.Late = false, false, false, false
	check(t, "Reset", Reset(distinct()), want)

	want = api.Regs{
		AF: 65535, BC: 65535, DE: 65535, HL: 65535,
		AF2: 65535, BC2: 65535, DE2: 65535, HL2: 65535,
		IX: 65535, IY: 65535, SP: 65535, WZ: 65535,
	}
	check(t, "Reset of all bits", Reset(full()), want)
	check(t, "Reset of nothing", Reset(api.Regs{}), api.Regs{})
}

func TestP11_2ResetOfEachFieldAlone(t *testing.T) {
	for _, r := range []api.Regs{
		{PC: 1}, {I: 1}, {R: 128}, {Mode: 1}, {Mode: -1}, {Mode: math.MinInt}, {IFF1: true}, {IFF2: true}, {Halted: true}, {Late: true},
	} {
		check(t, fmt.Sprintf("Reset(%+v)", r), Reset(r), api.Regs{})
	}
	for _, r := range []api.Regs{
		{AF: 1}, {BC: 1}, {DE: 1}, {HL: 1}, {AF2: 1}, {BC2: 1}, {DE2: 1}, {HL2: 1}, {IX: 1}, {IY: 1}, {SP: 1}, {WZ: 1},
	} {
		check(t, fmt.Sprintf("Reset(%+v)", r), Reset(r), r)
	}
}

func TestP11_3ShowAtTheEdges(t *testing.T) {
	const nothing = "af=0000h bc=0000h de=0000h hl=0000h ix=0000h iy=0000h sp=0000h pc=0000h i=00h r=00h "
	for _, c := range []struct {
		r    api.Regs
		want string
	}{
		{api.Regs{}, nothing + "im0"},
		{api.Regs{Mode: 1}, nothing + "im1"},
		{api.Regs{Mode: 2}, nothing + "im2"},
		{api.Regs{Mode: 10}, nothing + "im10"},
		{api.Regs{Mode: 12345}, nothing + "im12345"},
		{api.Regs{Mode: -1}, nothing + "im-1"},
		{api.Regs{Mode: -100}, nothing + "im-100"},
		{api.Regs{Mode: math.MinInt}, nothing + "im-9223372036854775808"},
		{api.Regs{Mode: math.MaxInt}, nothing + "im9223372036854775807"},
		{api.Regs{IFF1: true}, nothing + "im0 iff1"},
		{api.Regs{IFF2: true}, nothing + "im0 iff2"},
		{api.Regs{Halted: true}, nothing + "im0 halt"},
		{api.Regs{IFF1: true, IFF2: true}, nothing + "im0 iff1 iff2"},
		{api.Regs{IFF1: true, Halted: true}, nothing + "im0 iff1 halt"},
		{api.Regs{IFF2: true, Halted: true}, nothing + "im0 iff2 halt"},
		{api.Regs{IFF1: true, IFF2: true, Halted: true}, nothing + "im0 iff1 iff2 halt"},
		{api.Regs{IFF1: true, Mode: -3}, nothing + "im-3 iff1"},
		// What is not shown.
		{api.Regs{AF2: 1, BC2: 2, DE2: 3, HL2: 4, WZ: 5, Late: true}, nothing + "im0"},
		// Fewer digits than are shown.
		{
			api.Regs{AF: 1, BC: 0x10, DE: 0xab, HL: 0x100, IX: 0xfff, IY: 0x1000, SP: 0xa, PC: 0xf0, I: 1, R: 0xf},
			"af=0001h bc=0010h de=00abh hl=0100h ix=0fffh iy=1000h sp=000ah pc=00f0h i=01h r=0fh im0",
		},
		{distinct(), "af=0102h bc=0304h de=0506h hl=0708h ix=1112h iy=1314h sp=1516h pc=1718h i=1bh r=9ch im2 iff1 iff2 halt"},
		{full(), "af=ffffh bc=ffffh de=ffffh hl=ffffh ix=ffffh iy=ffffh sp=ffffh pc=ffffh i=ffh r=ffh im9223372036854775807 iff1 iff2 halt"},
		{api.Regs{AF: 0x12ff, PC: 7, R: 9, Mode: 2, IFF2: true, Halted: true}, "af=12ffh bc=0000h de=0000h hl=0000h ix=0000h iy=0000h sp=0000h pc=0007h i=00h r=09h im2 iff2 halt"},
	} {
		if s := Show(c.r); s != c.want {
			t.Errorf("Show(%+v) = %q, want %q", c.r, s, c.want)
		}
	}
}

func TestP11_3ShowOfEachFieldAndManyWords(t *testing.T) {
	for _, name := range []string{"AF", "BC", "DE", "HL", "IX", "IY", "SP", "PC", "I", "R"} {
		form := "%04x"
		most := 65535
		if len(name) == 1 {
			form, most = "%02x", 255
		}
		for w := 0; w <= most; w += 17 {
			r := withField(distinct(), name, uint16(w))
			was := fmt.Sprintf(form, field(distinct(), name))
			old := strings.ToLower(name) + "=" + was + "h"
			want := strings.Replace(Show(distinct()), old, strings.ToLower(name)+"="+fmt.Sprintf(form, w)+"h", 1)
			if s := Show(r); s != want {
				t.Fatalf("Show with %s %#x = %q, want %q", name, w, s, want)
			}
		}
	}
}

func TestP11_4GetIsWhatSetHasSet(t *testing.T) {
	for _, r := range samples() {
		for _, plane := range slices.Concat(planes, others) {
			for _, k := range registers {
				for b := range 256 {
					s := Set(r, plane, k, uint8(b))
					if got := Get(s, plane, k); got != uint8(b) {
						t.Fatalf("Get(%d, %d) = %d behind Set to %d", plane, k, got, b)
					}
				}
			}
		}
	}
}

func TestP11_4SetChangesNoOtherRegisterOrPair(t *testing.T) {
	for _, r := range samples() {
		for _, plane := range slices.Concat(planes, others) {
			for _, k := range registers {
				s := Set(r, plane, k, ^Get(r, plane, k))
				for _, other := range registers {
					if other != k && Get(s, plane, other) != Get(r, plane, other) {
						t.Fatalf("Set(%+v, %d, %d) changed register %d", r, plane, k, other)
					}
				}
				for p := range 4 {
					if k/2 != p && Pair(s, plane, p) != Pair(r, plane, p) {
						t.Fatalf("Set(%+v, %d, %d) changed pair %d", r, plane, k, p)
					}
				}
				// Back again, everything is as it was.
				check(t, "Set back", Set(s, plane, k, Get(r, plane, k)), r)
			}
		}
	}
}

func TestP11_4PairIsWhatSetPairHasSet(t *testing.T) {
	r := distinct()
	for _, plane := range append(slices.Clone(planes), -1, 7) {
		for p := range 4 {
			for w := range 65536 {
				if got := Pair(SetPair(r, plane, p, uint16(w)), plane, p); got != uint16(w) {
					t.Fatalf("Pair(%d, %d) = %#x behind SetPair to %#x", plane, p, got, w)
				}
			}
		}
	}
}

func TestP11_4HalvesOfAPair(t *testing.T) {
	for _, r := range samples() {
		for _, plane := range slices.Concat(planes, others) {
			for p := range 3 {
				for _, w := range words {
					s := Set(Set(r, plane, 2*p, uint8(w/256)), plane, 2*p+1, uint8(w%256))
					check(t, fmt.Sprintf("both halves of pair %d in plane %d", p, plane), s, SetPair(r, plane, p, w))
				}
			}
		}
	}
}

func TestP11_4ExxAndSwapTwice(t *testing.T) {
	for _, r := range samples() {
		check(t, "Exx twice", Exx(Exx(r)), r)
		check(t, "Swap twice", Swap(Swap(r)), r)
		check(t, "Exx and Swap, twice", Swap(Exx(Swap(Exx(r)))), r)
	}
}

func TestNoArgumentIsChanged(t *testing.T) {
	for _, was := range samples() {
		r := was
		for _, plane := range slices.Concat(planes, others) {
			for _, p := range append([]int{0, 1, 2, 3}, noPairs...) {
				Pair(r, plane, p)
				SetPair(r, plane, p, 0x5aa5)
			}
			for _, k := range append(slices.Clone(registers), noRegisters...) {
				Get(r, plane, k)
				Set(r, plane, k, 0x5a)
			}
		}
		Exx(r)
		Swap(r)
		Tick(r, 1)
		Reset(r)
		_ = Show(r)
		check(t, "an argument", r, was)
	}
}

func TestSamplesDiffer(t *testing.T) {
	// What the other tests rest on: no two words of distinct are equal, and nothing in it is 0 or false.
	v := reflect.ValueOf(distinct())
	seen := map[uint64]string{}
	for n := range v.NumField() {
		name := v.Type().Field(n).Name
		if v.Field(n).IsZero() {
			t.Errorf("%s is 0 or false", name)
		}
		if !v.Field(n).CanUint() {
			continue
		}
		if other, ok := seen[v.Field(n).Uint()]; ok {
			t.Errorf("%s and %s are equal", other, name)
		}
		seen[v.Field(n).Uint()] = name
	}
}
