package logic

import (
	"testing"

	"charabanc/api"
	"charabanc/flags"
	"charabanc/sum"
)

const (
	s = api.FlagS
	z = api.FlagZ
	y = api.FlagY
	h = api.FlagH
	x = api.FlagX
	p = api.FlagP
	n = api.FlagN
	c = api.FlagC
)

// row is two bytes, or a byte and the flags, and what they come to.
type row struct{ a, b, r, f uint8 }

// operate is the form of all operations but Scf and Ccf.
type operate func(a, b uint8) (uint8, uint8)

// digitOf is the bit of a byte that has that value, by division.
func digitOf(b, value int) int { return b / value % 2 }

// set tells whether the bit with that value is set, by division.
func set(b, value int) bool { return digitOf(b, value) == 1 }

// bitwise is the byte whose bits are those that pick answers for the number of set bits in the same place, by arithmetic.
func bitwise(a, b int, pick func(many int) bool) uint8 {
	r := 0
	for value := 1; value < 256; value *= 2 {
		if pick(digitOf(a, value) + digitOf(b, value)) {
			r += value
		}
	}
	return uint8(r)
}

// even is flags.Even, by the document's words, with H set or clear.
func even(r uint8, half bool) uint8 {
	many := 0
	for value := 1; value < 256; value *= 2 {
		many += digitOf(int(r), value)
	}
	b := int(r)
	return flags.Make([8]bool{set(b, 128), r == 0, set(b, 32), half, set(b, 8), many%2 == 0, false, false})
}

// adjusted is Daa, by the document's words, in whole numbers.
func adjusted(a, f int) (uint8, uint8) {
	correction := 0
	if set(f, h) || a%16 > 9 {
		correction = 6
	}
	carry := set(f, c) || a > 153
	if carry {
		correction += 96
	}
	r := (a + correction) % 256
	if set(f, n) {
		r = (a - correction + 256) % 256
	}
	l := flags.Of(even(uint8(r), digitOf(r, 16) != digitOf(a, 16)))
	l[6], l[7] = set(f, n), carry
	return uint8(r), flags.Make(l)
}

// complement is Cpl, by the document's words.
func complement(a, f int) (uint8, uint8) {
	r := 255 - a
	return uint8(r), flags.Make([8]bool{set(f, s), set(f, z), set(r, 32), true, set(r, 8), set(f, p), true, set(f, c)})
}

// carried is the flags of Scf and Ccf, by the document's words.
func carried(a, f int, half, carry bool) uint8 {
	return flags.Make([8]bool{set(f, s), set(f, z), set(a, 32), half, set(a, 8), set(f, p), false, carry})
}

// flagsAlone is an operation that answers flags alone, as one that answers 0 and them.
func flagsAlone(do func(a, f uint8) uint8) operate {
	return func(a, f uint8) (uint8, uint8) { return 0, do(a, f) }
}

// check fails if a byte or its flags aren't those that are wanted.
func check(t *testing.T, what string, a, b, r, f, wantR, wantF uint8) {
	t.Helper()
	if r != wantR || f != wantF {
		t.Fatalf("%s(%#x, %#x) = %#x %s, want %#x %s", what, a, b, r, flags.Show(f), wantR, flags.Show(wantF))
	}
}

// checkRows fails if one of the rows isn't what the operation answers.
func checkRows(t *testing.T, what string, do operate, rows []row) {
	t.Helper()
	for _, w := range rows {
		r, f := do(w.a, w.b)
		check(t, what, w.a, w.b, r, f, w.r, w.f)
	}
}

// checkAll fails if the operation isn't what the document's words say of it, for all pairs of bytes.
func checkAll(t *testing.T, what string, do operate, want func(a, b int) (uint8, uint8)) {
	t.Helper()
	for a := range 256 {
		for b := range 256 {
			r, f := do(uint8(a), uint8(b))
			wantR, wantF := want(a, b)
			check(t, what, uint8(a), uint8(b), r, f, wantR, wantF)
		}
	}
}

func TestP5_1AndAtTheEdges(t *testing.T) {
	checkRows(t, "And", And, []row{
		{0x0f, 0x3c, 0x0c, h | x | p},
		// A result of 0.
		{0, 0, 0, z | h | p},
		{0, 0xff, 0, z | h | p},
		{0xaa, 0x55, 0, z | h | p},
		// Results with an odd and with an even number of set bits.
		{0xff, 0x01, 0x01, h},
		{0x03, 0xff, 0x03, h | p},
		{0x77, 0x57, 0x57, h},
		{0x57, 0x47, 0x47, h | p},
		// Results whose bits 7, 5 and 3 are set and clear.
		{0xff, 0xff, 0xff, s | y | h | x | p},
		{0xff, 0x80, 0x80, s | h},
		{0x20, 0xff, 0x20, y | h},
		{0xff, 0x08, 0x08, h | x},
		{0xd7, 0xff, 0xd7, s | h | p},
		{0xff, 0x28, 0x28, y | h | x | p},
		{0xff, 0x57, 0x57, h},
	})
}

func TestP5_1OrAtTheEdges(t *testing.T) {
	checkRows(t, "Or", Or, []row{
		{0x0f, 0x3c, 0x3f, y | x | p},
		// A result of 0.
		{0, 0, 0, z | p},
		// Results with an odd and with an even number of set bits.
		{0, 0x01, 0x01, 0},
		{0x01, 0x02, 0x03, p},
		{0x40, 0x17, 0x57, 0},
		{0x40, 0x07, 0x47, p},
		// Results whose bits 7, 5 and 3 are set and clear.
		{0xaa, 0x55, 0xff, s | y | x | p},
		{0x80, 0, 0x80, s},
		{0, 0x20, 0x20, y},
		{0x08, 0x08, 0x08, x},
		{0x80, 0x57, 0xd7, s | p},
		{0x20, 0x08, 0x28, y | x | p},
		{0x80, 0x28, 0xa8, s | y | x},
	})
}

func TestP5_1XorAtTheEdges(t *testing.T) {
	checkRows(t, "Xor", Xor, []row{
		{0x0f, 0x3c, 0x33, y | p},
		// A result of 0.
		{0, 0, 0, z | p},
		{0xff, 0xff, 0, z | p},
		{0xa5, 0xa5, 0, z | p},
		// Results with an odd and with an even number of set bits.
		{0x03, 0x02, 0x01, 0},
		{0x01, 0x02, 0x03, p},
		{0xff, 0xa8, 0x57, 0},
		{0xff, 0xb8, 0x47, p},
		// Results whose bits 7, 5 and 3 are set and clear.
		{0xaa, 0x55, 0xff, s | y | x | p},
		{0xff, 0x7f, 0x80, s},
		{0xff, 0xdf, 0x20, y},
		{0xff, 0xf7, 0x08, x},
		{0xff, 0x28, 0xd7, s | p},
		{0xff, 0xd7, 0x28, y | x | p},
		{0xff, 0x57, 0xa8, s | y | x},
	})
}

func TestP5_1AllPairsOfBytes(t *testing.T) {
	checkAll(t, "And", And, func(a, b int) (uint8, uint8) {
		r := bitwise(a, b, func(many int) bool { return many == 2 })
		return r, even(r, true)
	})
	checkAll(t, "Or", Or, func(a, b int) (uint8, uint8) {
		r := bitwise(a, b, func(many int) bool { return many > 0 })
		return r, even(r, false)
	})
	checkAll(t, "Xor", Xor, func(a, b int) (uint8, uint8) {
		r := bitwise(a, b, func(many int) bool { return many == 1 })
		return r, even(r, false)
	})
}

func TestP5_2CplAtTheEdges(t *testing.T) {
	checkRows(t, "Cpl", Cpl, []row{
		// S, Z and P aren't those of the result, whatever it is.
		{0xff, 0, 0, h | n},
		{0, 0, 0xff, y | h | x | n},
		{0x7f, 0, 0x80, h | n},
		{0xff, 255, 0, s | z | h | p | n | c},
		{0, 255, 0xff, 255},
		// Y and X are those of the result.
		{0x28, 0, 0xd7, h | n},
		{0xd7, 0, 0x28, y | h | x | n},
		{0xdf, 0, 0x20, y | h | n},
		{0xf7, 0, 0x08, h | x | n},
		// Each flag of f, alone and all but it.
		{0x28, s, 0xd7, s | h | n},
		{0x28, z, 0xd7, z | h | n},
		{0x28, y, 0xd7, h | n},
		{0x28, h, 0xd7, h | n},
		{0x28, x, 0xd7, h | n},
		{0x28, p, 0xd7, h | p | n},
		{0x28, n, 0xd7, h | n},
		{0x28, c, 0xd7, h | n | c},
		{0xd7, 255 - s, 0x28, 255 - s},
		{0xd7, 255 - z, 0x28, 255 - z},
		{0xd7, 255 - y, 0x28, 255},
		{0xd7, 255 - h, 0x28, 255},
		{0xd7, 255 - x, 0x28, 255},
		{0xd7, 255 - p, 0x28, 255 - p},
		{0xd7, 255 - n, 0x28, 255},
		{0xd7, 255 - c, 0x28, 255 - c},
	})
}

func TestP5_2ScfAtTheEdges(t *testing.T) {
	checkRows(t, "Scf", flagsAlone(Scf), []row{
		// S, Z and P aren't those of a.
		{0, 0, 0, c},
		{0, 255, 0, s | z | p | c},
		{0xff, 0, 0, y | x | c},
		{0x80, 0, 0, c},
		{0x03, 0, 0, c},
		// Y and X are those of a.
		{0xd7, 0, 0, c},
		{0x28, 0, 0, y | x | c},
		{0x20, 0, 0, y | c},
		{0x08, 0, 0, x | c},
		// Each flag of f, alone and all but it.
		{0xd7, s, 0, s | c},
		{0xd7, z, 0, z | c},
		{0xd7, y, 0, c},
		{0xd7, h, 0, c},
		{0xd7, x, 0, c},
		{0xd7, p, 0, p | c},
		{0xd7, n, 0, c},
		{0xd7, c, 0, c},
		{0x28, 255 - s, 0, z | y | x | p | c},
		{0x28, 255 - z, 0, s | y | x | p | c},
		{0x28, 255 - y, 0, s | z | y | x | p | c},
		{0x28, 255 - h, 0, s | z | y | x | p | c},
		{0x28, 255 - x, 0, s | z | y | x | p | c},
		{0x28, 255 - p, 0, s | z | y | x | c},
		{0x28, 255 - n, 0, s | z | y | x | p | c},
		{0x28, 255 - c, 0, s | z | y | x | p | c},
	})
}

func TestP5_2CcfAtTheEdges(t *testing.T) {
	checkRows(t, "Ccf", flagsAlone(Ccf), []row{
		// S, Z and P aren't those of a.
		{0, 0, 0, c},
		{0, c, 0, h},
		{0, 255, 0, s | z | h | p},
		{0xff, c, 0, y | h | x},
		{0x80, c, 0, h},
		{0x03, c, 0, h},
		// Y and X are those of a.
		{0xd7, c, 0, h},
		{0x28, c, 0, y | h | x},
		{0x20, c, 0, y | h},
		{0x08, 0, 0, x | c},
		// Each flag of f, alone and all but it: H is not that of f.
		{0xd7, s, 0, s | c},
		{0xd7, z, 0, z | c},
		{0xd7, y, 0, c},
		{0xd7, h, 0, c},
		{0xd7, x, 0, c},
		{0xd7, p, 0, p | c},
		{0xd7, n, 0, c},
		{0xd7, h | c, 0, h},
		{0x28, 255 - s, 0, z | y | h | x | p},
		{0x28, 255 - z, 0, s | y | h | x | p},
		{0x28, 255 - y, 0, s | z | y | h | x | p},
		{0x28, 255 - h, 0, s | z | y | h | x | p},
		{0x28, 255 - x, 0, s | z | y | h | x | p},
		{0x28, 255 - p, 0, s | z | y | h | x},
		{0x28, 255 - n, 0, s | z | y | h | x | p},
		{0x28, 255 - c, 0, s | z | y | x | p | c},
	})
}

func TestP5_2AllBytesAndFlags(t *testing.T) {
	checkAll(t, "Cpl", Cpl, complement)
	checkAll(t, "Scf", flagsAlone(Scf), func(a, f int) (uint8, uint8) {
		return 0, carried(a, f, false, true)
	})
	checkAll(t, "Ccf", flagsAlone(Ccf), func(a, f int) (uint8, uint8) {
		return 0, carried(a, f, set(f, c), !set(f, c))
	})
}

func TestP5_3DaaAdding(t *testing.T) {
	checkRows(t, "Daa", Daa, []row{
		{0x9a, 0, 0, z | h | p | c}, // the document's example
		// A correction of 0.
		{0, 0, 0, z | p},
		{0x12, 0, 0x12, p},
		// A low digit of 9 and of 10, and H, which asks for 6 as well.
		{0x19, 0, 0x19, x},
		{0x1a, 0, 0x20, y | h},
		{0x09, h, 0x0f, x | p},
		{0x0a, h, 0x10, h},
		{0x01, h, 0x07, 0},
		// 153 and 154, and C, which asks for 96 as well.
		{0x99, 0, 0x99, s | x | p},
		{0x99, h, 0x9f, s | x | p},
		{0x9a, h, 0, z | h | p | c},
		{0xa0, 0, 0, z | p | c},
		{0xa1, 0, 0x01, c},
		{0x99, c, 0xf9, s | y | x | p | c},
		{0x12, c, 0x72, y | p | c},
		{0x9f, 0, 0x05, h | p | c},
		// A correction of 102.
		{0xff, 0, 0x65, y | h | p | c},
		{0x12, h | c, 0x78, y | x | p | c},
		{0x0a, c, 0x70, y | h | c},
		{0xa0, h, 0x06, p | c},
		// Results of 255 and of 256, that is of 0.
		{0x99, h | c, 0xff, s | y | x | p | c},
		{0x9a, c, 0, z | h | p | c},
		// Of f, only H, N and C play a part.
		{0x12, s | z | y | x | p, 0x12, p},
		{0x07, s | z | y | x | p, 0x07, 0},
		{0x12, 255 - n, 0x78, y | x | p | c},
	})
}

func TestP5_3DaaTakingAway(t *testing.T) {
	checkRows(t, "Daa", Daa, []row{
		// A correction of 0.
		{0, n, 0, z | p | n},
		{0x12, n, 0x12, p | n},
		// A low digit of 9 and of 10, and H, which asks for 6 as well.
		{0x19, n, 0x19, x | n},
		{0x1a, n, 0x14, p | n},
		{0x19, h | n, 0x13, n},
		{0x16, h | n, 0x10, n},
		{0x15, h | n, 0x0f, h | x | p | n},
		{0x06, h | n, 0, z | p | n},
		// 153 and 154, and C, which asks for 96 as well.
		{0x99, n, 0x99, s | x | p | n},
		{0x9a, n, 0x34, y | n | c},
		{0xa0, n, 0x40, n | c},
		{0x99, n | c, 0x39, y | x | p | n | c},
		{0x60, n | c, 0, z | p | n | c},
		// A correction of 102.
		{0xff, n, 0x99, s | x | p | n | c},
		{0x66, h | n | c, 0, z | p | n | c},
		{0x78, h | n | c, 0x12, p | n | c},
		{0x7a, n | c, 0x14, p | n | c},
		// Results below 0.
		{0x05, h | n, 0xff, s | y | h | x | p | n},
		{0x5f, n | c, 0xf9, s | y | x | p | n | c},
		{0x50, n | c, 0xf0, s | y | p | n | c},
		{0x65, h | n | c, 0xff, s | y | h | x | p | n | c},
		{0, h | n | c, 0x9a, s | h | x | p | n | c},
		// Of f, only H, N and C play a part.
		{0x12, 255 - h - c, 0x12, p | n},
		{0x78, 255, 0x12, p | n | c},
	})
}

func TestP5_3DaaOfAllBytesAndFlags(t *testing.T) { checkAll(t, "Daa", Daa, adjusted) }

// decimal is the byte whose digits are those of a number, of which only the last two have a place.
func decimal(number int) uint8 { return uint8(number/10%10*16 + number%10) }

// checkSum fails if Daa doesn't turn the sum of two numbers, added digit by digit in bytes, into the decimal sum.
func checkSum(t *testing.T, a, b int) {
	t.Helper()
	r, f := sum.Add(decimal(a), decimal(b), false)
	r, f = Daa(r, f)
	if r != decimal(a+b) || set(int(f), c) != (a+b > 99) {
		t.Fatalf("%d + %d = %#x %s", a, b, r, flags.Show(f))
	}
}

func TestP5_4DecimalSumsAtTheEdges(t *testing.T) {
	for _, w := range [][2]int{
		{0, 0}, {5, 4}, {5, 5}, {9, 9}, {15, 27}, {19, 1}, {90, 9},
		{99, 0}, {45, 54}, {50, 49}, // sums of 99
		{99, 1}, {45, 55}, {50, 50}, {91, 9}, // sums of 100
		{60, 90}, {89, 19}, {99, 99},
	} {
		checkSum(t, w[0], w[1])
		checkSum(t, w[1], w[0])
	}
}

func TestP5_4AllDecimalSums(t *testing.T) {
	for a := range 100 {
		for b := range 100 {
			checkSum(t, a, b)
		}
	}
}
