package shift

import (
	"math"
	"testing"

	"charabanc/api"
	"charabanc/flags"
)

const (
	s = api.FlagS
	z = api.FlagZ
	y = api.FlagY
	h = api.FlagH
	x = api.FlagX
	p = api.FlagP
	n = api.FlagN
	c = api.FlagC
)

// names is the kinds' names, by the document's numbers.
var names = [8]string{"RLC", "RRC", "RL", "RR", "SLA", "SRA", "SLL", "SRL"}

// others is kinds, or bits, that there are not.
var others = []int{
	-1, -2, -3, -4, -5, -6, -7, -8, -9, -16, -255, -256, math.MinInt32, math.MinInt, math.MinInt + 1,
	8, 9, 10, 11, 15, 16, 63, 64, 255, 256, 257, math.MaxInt32, math.MaxInt - 1, math.MaxInt,
}

// someFlags is flag bytes in which each flag is set and clear, alone and among the others.
var someFlags = []uint8{0, s, z, y, h, x, p, n, c, 255 - s, 255 - z, 255 - y, 255 - h, 255 - x, 255 - p, 255 - n, 255 - c, 255}

// row is a kind, a byte and the flags, and what they come to.
type row struct {
	kind       int
	b, f, r, g uint8
}

// shifting is the form of Do and Acc.
type shifting func(kind int, b, f uint8) (uint8, uint8)

// set tells whether the bit with that value is set, by division.
func set(b, value int) bool { return b/value%2 == 1 }

// one is 1 if something holds, and otherwise 0.
func one(holds bool) int {
	if holds {
		return 1
	}
	return 0
}

// even tells whether an even number of bits is set, by division.
func even(b int) bool {
	many := 0
	for ; b > 0; b /= 2 {
		many += b % 2
	}
	return many%2 == 0
}

// shifted is a byte, shifted by the document's words, in whole numbers, and whether the bit that is shifted out is set.
func shifted(kind, b, f int) (int, bool) {
	left := kind%2 == 0
	out := set(b, 1)
	if left {
		out = set(b, 128)
	}
	in := 0
	switch kind {
	case 0, 1:
		in = one(out)
	case 2, 3:
		in = one(set(f, c))
	case 5:
		in = one(set(b, 128))
	case 6:
		in = 1
	}
	if left {
		return b*2%256 + in, out
	}
	return b/2 + 128*in, out
}

// done is Do, by the document's words.
func done(kind, b, f int) (uint8, uint8) {
	r, out := shifted(kind, b, f)
	return uint8(r), flags.Make([8]bool{set(r, 128), r == 0, set(r, 32), false, set(r, 8), even(r), false, out})
}

// turned is Acc, by the document's words.
func turned(kind, a, f int) (uint8, uint8) {
	r, out := shifted(kind, a, f)
	return uint8(r), flags.Make([8]bool{set(f, s), set(f, z), set(r, 32), false, set(r, 8), set(f, p), false, out})
}

// digits is Digit, by the document's words, in whole numbers.
func digits(right bool, a, b, f int) (uint8, uint8, uint8) {
	r, q := a/16*16+b/16, b%16*16+a%16
	if right {
		r, q = a/16*16+b%16, a%16*16+b/16
	}
	g := flags.Make([8]bool{set(r, 128), r == 0, set(r, 32), false, set(r, 8), even(r), false, set(f, c)})
	return uint8(r), uint8(q), g
}

// tested is Bit, by the document's words; is tells whether the bit is there and set.
func tested(bit int, is bool, lines, f int) uint8 {
	return flags.Make([8]bool{bit == 7 && is, !is, set(lines, 32), true, set(lines, 8), !is, false, set(f, c)})
}

// check fails if a byte or its flags aren't those that are wanted.
func check(t *testing.T, what string, kind int, b, f, r, g, wantR, wantG uint8) {
	t.Helper()
	if r != wantR || g != wantG {
		t.Fatalf("%s(%d, %#x, %s) = %#x %s, want %#x %s", what, kind, b, flags.Show(f), r, flags.Show(g), wantR, flags.Show(wantG))
	}
}

// checkRows fails if one of the rows isn't what is answered.
func checkRows(t *testing.T, what string, do shifting, rows []row) {
	t.Helper()
	for _, w := range rows {
		r, g := do(w.kind, w.b, w.f)
		check(t, what, w.kind, w.b, w.f, r, g, w.r, w.g)
	}
}

// checkAll fails if a kind isn't what the document's words say of it, for all bytes and all flag bytes.
func checkAll(t *testing.T, what string, do shifting, kind int, want func(kind, b, f int) (uint8, uint8)) {
	t.Helper()
	for b := range 256 {
		for f := range 256 {
			r, g := do(kind, uint8(b), uint8(f))
			wantR, wantG := want(kind, b, f)
			check(t, what, kind, uint8(b), uint8(f), r, g, wantR, wantG)
		}
	}
}

// checkUnchanged fails if a kind that there is not changes a byte or the flags.
func checkUnchanged(t *testing.T, what string, do shifting, kind int) {
	t.Helper()
	for b := range 256 {
		for _, f := range someFlags {
			r, g := do(kind, uint8(b), f)
			check(t, what, kind, uint8(b), f, r, g, uint8(b), f)
		}
	}
}

func TestP6_1TurnsWithoutTheCarry(t *testing.T) {
	checkRows(t, "Do", Do, []row{
		// RLC: the bit that is shifted out is shifted in, and C of f plays no part.
		{0, 0x81, 0, 0x03, p | c}, // the document's example
		{0, 0x81, c, 0x03, p | c},
		{0, 0x80, 0, 0x01, c},
		{0, 0x01, c, 0x02, 0},
		{0, 0x7f, 0, 0xfe, s | y | x},
		{0, 0, c, 0, z | p},
		{0, 0xff, 0, 0xff, s | y | x | p | c},
		// Bits 7, 5 and 3 of the result, set one by one.
		{0, 0x40, 0, 0x80, s},
		{0, 0x10, 0, 0x20, y},
		{0, 0x04, 0, 0x08, x},
		{0, 0xab, 0, 0x57, c},
		// RRC.
		{1, 0x81, 0, 0xc0, s | p | c},
		{1, 0x80, c, 0x40, 0},
		{1, 0x01, 0, 0x80, s | c},
		{1, 0xfe, c, 0x7f, y | x},
		{1, 0, c, 0, z | p},
		{1, 0xff, 0, 0xff, s | y | x | p | c},
		{1, 0x40, 0, 0x20, y},
		{1, 0x10, 0, 0x08, x},
		{1, 0xae, 0, 0x57, 0},
	})
}

func TestP6_1TurnsWithTheCarry(t *testing.T) {
	checkRows(t, "Do", Do, []row{
		// RL: C of f is shifted in.
		{2, 0x81, 0, 0x02, c},
		{2, 0x81, c, 0x03, p | c},
		{2, 0x80, 0, 0, z | p | c},
		{2, 0x80, c, 0x01, c},
		{2, 0, 0, 0, z | p},
		{2, 0, c, 0x01, 0},
		{2, 0x7f, c, 0xff, s | y | x | p},
		{2, 0x7f, 0, 0xfe, s | y | x},
		// Of f, only C plays a part.
		{2, 0x80, 255 - c, 0, z | p | c},
		{2, 0x80, 255, 0x01, c},
		// RR.
		{3, 0x81, 0, 0x40, c},
		{3, 0x81, c, 0xc0, s | p | c},
		{3, 0x01, 0, 0, z | p | c},
		{3, 0x01, c, 0x80, s | c},
		{3, 0, 0, 0, z | p},
		{3, 0, c, 0x80, s},
		{3, 0xfe, c, 0xff, s | y | x | p},
		{3, 0xfe, 0, 0x7f, y | x},
		{3, 0x01, 255 - c, 0, z | p | c},
		{3, 0x01, 255, 0x80, s | c},
	})
}

func TestP6_1Shifts(t *testing.T) {
	checkRows(t, "Do", Do, []row{
		// SLA: 0 is shifted in.
		{4, 0x81, c, 0x02, c},
		{4, 0x80, c, 0, z | p | c},
		{4, 0x01, 0, 0x02, 0},
		{4, 0x7f, c, 0xfe, s | y | x},
		{4, 0, c, 0, z | p},
		// SRA: bit 7 stays.
		{5, 0x81, 0, 0xc0, s | p | c},
		{5, 0x80, 0, 0xc0, s | p},
		{5, 0x01, c, 0, z | p | c},
		{5, 0x7f, c, 0x3f, y | x | p | c},
		{5, 0xff, 0, 0xff, s | y | x | p | c},
		{5, 0, c, 0, z | p},
		// SLL: 1 is shifted in, so that no result is 0.
		{6, 0x81, 0, 0x03, p | c},
		{6, 0x80, 0, 0x01, c},
		{6, 0, 0, 0x01, 0},
		{6, 0x7f, 0, 0xff, s | y | x | p},
		{6, 0xff, 0, 0xff, s | y | x | p | c},
		// SRL: 0 is shifted in.
		{7, 0x81, c, 0x40, c},
		{7, 0x80, c, 0x40, 0},
		{7, 0x01, c, 0, z | p | c},
		{7, 0xff, 0, 0x7f, y | x | c},
		{7, 0, c, 0, z | p},
	})
}

func TestP6_1EachFlagOfF(t *testing.T) {
	for _, f := range someFlags {
		checkRows(t, "Do", Do, []row{
			{0, 0x28, f, 0x50, p},
			{1, 0x51, f, 0xa8, s | y | x | c},
			{2, 0x28, f, 0x50 | f&c, flags.Even(0x50 | f&c)},
			{5, 0x28, f, 0x14, p},
		})
	}
}

func TestP6_1AllKindsBytesAndFlags(t *testing.T) {
	for kind := range 8 {
		checkAll(t, "Do", Do, kind, done)
	}
}

func TestP6_1OtherKindsChangeNothing(t *testing.T) {
	checkRows(t, "Do", Do, []row{
		{8, 0x81, 7, 0x81, 7},
		{-1, 0x81, 0, 0x81, 0},
		{-8, 0, 255, 0, 255},
		{9, 0xff, 255 - c, 0xff, 255 - c},
	})
	for _, kind := range others {
		checkUnchanged(t, "Do", Do, kind)
	}
}

func TestP6_2TurnsOfTheAccumulator(t *testing.T) {
	checkRows(t, "Acc", Acc, []row{
		// RLCA: S, Z and P are not those of the result.
		{0, 0x81, 0, 0x03, c},
		{0, 0x40, 0, 0x80, 0},
		{0, 0, 0, 0, 0},
		{0, 0, c, 0, 0},
		{0, 0xff, 0, 0xff, y | x | c},
		{0, 0x10, 0, 0x20, y},
		{0, 0x04, 0, 0x08, x},
		{0, 0x28, 255, 0x50, s | z | p},
		{0, 0x94, 255, 0x29, 255 - h - n},
		// RRCA.
		{1, 0x81, 0, 0xc0, c},
		{1, 0x02, c, 0x01, 0},
		{1, 0, 255, 0, s | z | p},
		{1, 0x51, 0, 0xa8, y | x | c},
		// RLA.
		{2, 0x80, 0, 0, c},
		{2, 0x80, c, 0x01, c},
		{2, 0, 255 - c, 0, s | z | p},
		{2, 0x14, c, 0x29, y | x},
		// RRA.
		{3, 0x01, 0, 0, c},
		{3, 0x01, c, 0x80, c},
		{3, 0, 255, 0x80, s | z | p},
		{3, 0x50, 255 - c, 0x28, s | z | y | x | p},
	})
}

func TestP6_2EachFlagOfF(t *testing.T) {
	for _, f := range someFlags {
		kept := f & (s | z | p)
		checkRows(t, "Acc", Acc, []row{
			{0, 0x28, f, 0x50, kept},
			{1, 0x51, f, 0xa8, kept | y | x | c},
		})
	}
}

func TestP6_2AllKindsBytesAndFlags(t *testing.T) {
	for kind := range 4 {
		checkAll(t, "Acc", Acc, kind, turned)
	}
}

func TestP6_2OtherKindsChangeNothing(t *testing.T) {
	checkRows(t, "Acc", Acc, []row{
		{4, 0x81, 7, 0x81, 7},
		{7, 0x81, 0, 0x81, 0},
		{-1, 0x81, 0, 0x81, 0},
		{8, 0xff, 255, 0xff, 255},
	})
	for _, kind := range append([]int{4, 5, 6, 7}, others...) {
		checkUnchanged(t, "Acc", Acc, kind)
	}
}

// turnOfDigits is a direction, a, b and the flags, and the a, b and flags that they come to.
type turnOfDigits struct {
	right               bool
	a, b, f, ra, rb, rf uint8
}

// checkDigits fails if Digit doesn't answer those bytes and flags.
func checkDigits(t *testing.T, w turnOfDigits) {
	t.Helper()
	a, b, f := Digit(w.right, w.a, w.b, w.f)
	if a != w.ra || b != w.rb || f != w.rf {
		t.Fatalf("Digit(%v, %#x, %#x, %s) = %#x %#x %s, want %#x %#x %s", w.right, w.a, w.b, flags.Show(w.f), a, b, flags.Show(f), w.ra, w.rb, flags.Show(w.rf))
	}
}

func TestP6_3DigitAtTheEdges(t *testing.T) {
	for _, w := range []turnOfDigits{
		{false, 18, 52, 0, 19, 66, 0}, // the document's example
		{true, 18, 52, 0, 20, 35, p},
		{false, 0x7a, 0x31, c, 0x73, 0x1a, y | c},
		{true, 0x7a, 0x31, c, 0x71, 0xa3, y | p | c},
		// Digits of 0 and of 15; a high digit of a that stays, also where a low one is 0.
		{false, 0, 0, 0, 0, 0, z | p},
		{true, 0, 0, c, 0, 0, z | p | c},
		{false, 0x0f, 0x0f, 0, 0, 0xff, z | p},
		{true, 0x0f, 0xf0, 0, 0, 0xff, z | p},
		{false, 0x0f, 0, 0, 0, 0x0f, z | p},
		{true, 0x0f, 0, 0, 0, 0xf0, z | p},
		{false, 0, 0xf0, 0, 0x0f, 0, x | p},
		{true, 0, 0xf0, 0, 0, 0x0f, z | p},
		{false, 0, 0x0f, 0, 0, 0xf0, z | p},
		{true, 0, 0x0f, 0, 0x0f, 0, x | p},
		{false, 0xf0, 0, 0, 0xf0, 0, s | y | p},
		{true, 0xf0, 0, c, 0xf0, 0, s | y | p | c},
		{false, 0xff, 0xff, 0, 0xff, 0xff, s | y | x | p},
		{true, 0xff, 0xff, c, 0xff, 0xff, s | y | x | p | c},
		// Bits 7, 5 and 3, and the number of set bits, of the new a.
		{false, 0x80, 0x01, 0, 0x80, 0x10, s},
		{true, 0x20, 0x10, 0, 0x20, 0x01, y},
		{false, 0x07, 0x80, 0, 0x08, 0x07, x},
		{true, 0x50, 0x07, 0, 0x57, 0, 0},
		{true, 0x40, 0x07, 0, 0x47, 0, p},
	} {
		checkDigits(t, w)
	}
}

func TestP6_3OnlyTheCarryStays(t *testing.T) {
	for _, f := range someFlags {
		checkDigits(t, turnOfDigits{false, 0x54, 0x77, f, 0x57, 0x74, f & c})
		checkDigits(t, turnOfDigits{true, 0x54, 0x77, f, 0x57, 0x47, f & c})
	}
}

func TestP6_3AllPairsOfBytes(t *testing.T) {
	for a := range 256 {
		for b := range 256 {
			for _, right := range []bool{false, true} {
				for _, f := range []int{0, c, 255 - c, 255} {
					ra, rb, rf := digits(right, a, b, f)
					checkDigits(t, turnOfDigits{right, uint8(a), uint8(b), uint8(f), ra, rb, rf})
				}
			}
		}
	}
}

// checkBit fails if Bit doesn't answer those flags.
func checkBit(t *testing.T, bit int, b, lines, f, want uint8) {
	t.Helper()
	if g := Bit(bit, b, lines, f); g != want {
		t.Fatalf("Bit(%d, %#x, %#x, %s) = %s, want %s", bit, b, lines, flags.Show(f), flags.Show(g), flags.Show(want))
	}
}

func TestP6_4BitAtTheEdges(t *testing.T) {
	for _, w := range []struct {
		bit                int
		b, lines, f, wants uint8
	}{
		// S is told of bit 7 alone, and of it only if it is asked for.
		{7, 0x80, 0, 0, s | h},
		{7, 0x7f, 0, 0, z | h | p},
		{7, 0xff, 0, 0, s | h},
		{6, 0xff, 0, 0, h},
		{6, 0x80, 0, 0, z | h | p},
		{0, 0x01, 0, 0, h},
		{0, 0xfe, 0, 0, z | h | p},
		{0, 0x81, 0, 0, h},
		// Y and X are those of the lines, not those of b or f.
		{7, 0x80, 0x28, c, s | y | h | x | c},
		{5, 0x20, 0, 0, h},
		{3, 0x08, 0, 0, h},
		{5, 0xff, 0xd7, 255, h | c},
		{3, 0, 0x20, 0, z | y | h | p},
		{3, 0, 0x08, 0, z | h | x | p},
		{0, 0xff, 0x20, 0, y | h},
		{0, 0xff, 0x08, 0, h | x},
		{0, 0xff, 0xff, 0, y | h | x},
		// Bits that a byte does not have.
		{8, 0xff, 0, 0, z | h | p},
		{-1, 0xff, 0xff, 255, z | y | h | x | p | c},
	} {
		checkBit(t, w.bit, w.b, w.lines, w.f, w.wants)
	}
}

func TestP6_4EachFlagOfF(t *testing.T) {
	for _, f := range someFlags {
		checkBit(t, 2, 0x04, 0, f, h|f&c)
		checkBit(t, 2, 0xfb, 0, f, z|h|p|f&c)
	}
}

func TestP6_4AllBitsOfAllBytes(t *testing.T) {
	for b := range 256 {
		for bit, value := 0, 1; bit < 8; bit, value = bit+1, value*2 {
			for lines := range 256 {
				for _, f := range []int{0, c, 255 - c, 255} {
					checkBit(t, bit, uint8(b), uint8(lines), uint8(f), tested(bit, set(b, value), lines, f))
				}
			}
		}
	}
}

func TestP6_4NoOtherBitIsSet(t *testing.T) {
	for b := range 256 {
		for _, bit := range others {
			for _, lines := range []int{0, 0x08, 0x20, 0x28, 0xd7, 0xff} {
				for _, f := range []int{0, c, 255 - c, 255} {
					checkBit(t, bit, uint8(b), uint8(lines), uint8(f), tested(bit, false, lines, f))
				}
			}
		}
	}
}

// checkBack fails if the second kind doesn't undo the first one, the carry going from one to the other.
func checkBack(t *testing.T, what string, do shifting, first, second int, b, f uint8) {
	t.Helper()
	r, g := do(first, b, f)
	back, _ := do(second, r, g)
	if back != b {
		t.Fatalf("%s: %s of %s of %#x with %s is %#x", what, names[second], names[first], b, flags.Show(f), back)
	}
}

func TestP6_5TurnsUndoEachOther(t *testing.T) {
	for b := range 256 {
		for f := range 256 {
			for _, kinds := range [][2]int{{0, 1}, {1, 0}, {2, 3}, {3, 2}} {
				checkBack(t, "Do", Do, kinds[0], kinds[1], uint8(b), uint8(f))
				checkBack(t, "Acc", Acc, kinds[0], kinds[1], uint8(b), uint8(f))
			}
		}
	}
}

func TestP6_5TheCarryComesBack(t *testing.T) {
	for b := range 256 {
		for f := range 256 {
			for _, kinds := range [][2]int{{2, 3}, {3, 2}} {
				r, g := Do(kinds[0], uint8(b), uint8(f))
				_, g = Do(kinds[1], r, g)
				if g&c != uint8(f)&c {
					t.Fatalf("%s, then %s, of %#x with %s: the flags are %s", names[kinds[0]], names[kinds[1]], b, flags.Show(uint8(f)), flags.Show(g))
				}
			}
		}
	}
}

func TestP6_5DirectionsOfDigitUndoEachOther(t *testing.T) {
	for a := range 256 {
		for b := range 256 {
			for _, right := range []bool{false, true} {
				ra, rb, rf := Digit(right, uint8(a), uint8(b), c)
				ra, rb, rf = Digit(!right, ra, rb, rf)
				if int(ra) != a || int(rb) != b || rf&c != c {
					t.Fatalf("Digit(%v), then back, of %#x and %#x = %#x %#x %s", right, a, b, ra, rb, flags.Show(rf))
				}
			}
		}
	}
}

// checkRound fails if so many rotations don't restore the byte, and C where it goes round as well.
func checkRound(t *testing.T, do shifting, kind, many int, b, f uint8) {
	t.Helper()
	r, g := b, f
	for range many {
		r, g = do(kind, r, g)
	}
	if r != b || kind >= 2 && g&c != f&c {
		t.Fatalf("%d times %s of %#x with %s = %#x %s", many, names[kind], b, flags.Show(f), r, flags.Show(g))
	}
}

func TestP6_5RotationsRestoreTheByte(t *testing.T) {
	for b := range 256 {
		for _, f := range someFlags {
			for kind, many := range []int{8, 8, 9, 9} {
				checkRound(t, Do, kind, many, uint8(b), f)
				checkRound(t, Acc, kind, many, uint8(b), f)
			}
		}
	}
}
