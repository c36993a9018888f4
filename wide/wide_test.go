package wide

import (
	"math"
	"testing"

	"charabanc/api"
	"charabanc/bits"
	"charabanc/flags"
	"charabanc/sum"
)

const (
	s = api.FlagS
	z = api.FlagZ
	y = api.FlagY
	h = api.FlagH
	x = api.FlagX
	p = api.FlagP
	n = api.FlagN
	c = api.FlagC
)

// row is two words with a flag byte, and what they come to.
type row struct {
	a, b uint16
	f    uint8
	r    uint16
	g    uint8
}

// operate is the form of Add, Adc and Sbc.
type operate func(a, b uint16, f uint8) (uint16, uint8)

// edges is words at which carries, signs and the copied bits change.
var edges = []int{
	0, 1, 2, 0x0f, 0x10, 0x7f, 0x80, 0xff, 0x100, 0x101, 0x7ff, 0x800, 0xf00, 0xffe, 0xfff, 0x1000, 0x1001,
	0x1234, 0x1fff, 0x2000, 0x2800, 0x4321, 0x5555, 0x7f00, 0x7ffe, 0x7fff, 0x8000, 0x8001, 0x80ff,
	0xaaaa, 0xbfff, 0xc000, 0xd7ff, 0xd800, 0xefff, 0xf000, 0xff00, 0xff01, 0xfffe, 0xffff,
}

// number is the carry of a flag byte.
func number(f uint8) int { return int(f) % 2 }

// signed is a word as a number from -32768 on.
func signed(w int) int {
	if w >= 32768 {
		return w - 65536
	}
	return w
}

// outside tells whether a number is no signed word.
func outside(v int) bool { return v < -32768 || v > 32767 }

// flagged is the flag byte of a result, by the document's words.
func flagged(r int, half, over, minus, carry bool) uint8 {
	high := r / 256
	return flags.Make([8]bool{high/128 == 1, r == 0, high/32%2 == 1, half, high/8%2 == 1, over, minus, carry})
}

// added is Adc, by the document's words, in whole numbers.
func added(a, b int, f uint8) (uint16, uint8) {
	k := number(f)
	total := a + b + k
	r := total % 65536
	return uint16(r), flagged(r, a%4096+b%4096+k > 4095, outside(signed(a)+signed(b)+k), false, total > 65535)
}

// taken is Sbc, by the document's words, in whole numbers.
func taken(a, b int, f uint8) (uint16, uint8) {
	k := number(f)
	total := a - b - k
	r := (total + 65536) % 65536
	return uint16(r), flagged(r, a%4096-b%4096-k < 0, outside(signed(a)-signed(b)-k), true, total < 0)
}

// plain is Add, by the document's words, in whole numbers.
func plain(a, b int, f uint8) (uint16, uint8) {
	r, g := added(a, b, 0)
	l, old := flags.Of(g), flags.Of(f)
	l[0], l[1], l[5] = old[0], old[1], old[5]
	return r, flags.Make(l)
}

// many calls visit for words from all over with every edge, both ways round, with C set and clear.
func many(visit func(a, b int, f uint8)) {
	// An odd stride, so that all low bytes and all high bytes are met.
	for a := 0; a < 65536; a += 31 {
		for _, b := range edges {
			for f := range uint8(2) {
				visit(a, b, f)
				visit(b, a, f)
			}
		}
	}
}

// check fails if a word or its flags aren't those that are wanted.
func check(t *testing.T, what string, a, b int, f uint8, r uint16, g uint8, wantR uint16, wantG uint8) {
	t.Helper()
	if r != wantR || g != wantG {
		t.Fatalf("%s(%#x, %#x, %s) = %#x %s, want %#x %s", what, a, b, flags.Show(f), r, flags.Show(g), wantR, flags.Show(wantG))
	}
}

// checkRows fails if one of the rows isn't what the operation answers.
func checkRows(t *testing.T, what string, do operate, rows []row) {
	t.Helper()
	for _, w := range rows {
		r, g := do(w.a, w.b, w.f)
		check(t, what, int(w.a), int(w.b), w.f, r, g, w.r, w.g)
	}
}

// checkAll fails if the operation isn't what the document's words say of it: for many words, and for the edges with every flag byte.
func checkAll(t *testing.T, what string, do operate, want func(a, b int, f uint8) (uint16, uint8)) {
	t.Helper()
	visit := func(a, b int, f uint8) {
		r, g := do(uint16(a), uint16(b), f)
		wantR, wantG := want(a, b, f)
		check(t, what, a, b, f, r, g, wantR, wantG)
	}
	many(visit)
	for _, a := range edges {
		for _, b := range edges {
			for f := range 256 {
				visit(a, b, uint8(f))
			}
		}
	}
}

func TestP4_1AddAtTheEdges(t *testing.T) {
	checkRows(t, "Add", Add, []row{
		{4095, 1, 0, 4096, h}, // the document's example
		{0, 0, 0, 0, 0},       // Z isn't told
		// Sums of 65535 and 65536; the carry plays no part.
		{0xf0f0, 0x0f0f, 0, 0xffff, y | x},
		{0xf0f0, 0x0f0f, c, 0xffff, y | x},
		{0xf0f0, 0x0f10, 0, 0, h | c},
		{0xf0f0, 0x0f10, c, 0, h | c},
		{0xf000, 0x1000, 0, 0, c},
		{0xffff, 0xffff, c, 0xfffe, y | h | x | c},
		// Low 12 bits whose sum is 4095 and 4096.
		{0x1800, 0x27ff, 0, 0x3fff, y | x},
		{0x1800, 0x27ff, c, 0x3fff, y | x},
		{0x1800, 0x2800, 0, 0x4000, h},
		{0x00ff, 1, 0, 0x100, 0}, // a carry between the bytes alone is no H
		// Signed sums beyond a word; P isn't told.
		{0x7fff, 0, 0, 0x7fff, y | x},
		{0x7fff, 1, 0, 0x8000, h},
		{0x8000, 0, 0, 0x8000, 0},
		{0x8000, 0xffff, 0, 0x7fff, y | x | c},
		// Y and X of the high byte, whatever the low one is.
		{0x2000, 0xd7, 0, 0x20d7, y},
		{0x0800, 0xd7, 0, 0x08d7, x},
		{0xd700, 0x28, 0, 0xd728, 0},
		// Each flag of f, alone and all but it.
		{0xd700, 0, s, 0xd700, s},
		{0xd700, 0, z, 0xd700, z},
		{0xd700, 0, y, 0xd700, 0},
		{0xd700, 0, h, 0xd700, 0},
		{0xd700, 0, x, 0xd700, 0},
		{0xd700, 0, p, 0xd700, p},
		{0xd700, 0, n, 0xd700, 0},
		{0xd700, 0, c, 0xd700, 0},
		{0x2fff, 0xf801, 255, 0x2800, s | z | y | h | x | p | c},
		{0x2fff, 0xf801, 255 - s, 0x2800, z | y | h | x | p | c},
		{0x2fff, 0xf801, 255 - z, 0x2800, s | y | h | x | p | c},
		{0x2fff, 0xf801, 255 - p, 0x2800, s | z | y | h | x | c},
		{0x2fff, 0xf801, 0, 0x2800, y | h | x | c},
	})
}

func TestP4_1AddOfManyWords(t *testing.T) { checkAll(t, "Add", Add, plain) }

func TestP4_2AdcAtTheEdges(t *testing.T) {
	checkRows(t, "Adc", Adc, []row{
		// Sums of 65535 and 65536, with and without the carry.
		{0xf0f0, 0x0f0f, 0, 0xffff, s | y | x},
		{0xf0f0, 0x0f0f, c, 0, z | h | c},
		{0xf0f0, 0x0f0e, c, 0xffff, s | y | x},
		{0xf0f0, 0x0f10, 0, 0, z | h | c},
		{0xffff, 0xffff, c, 0xffff, s | y | h | x | c},
		// Low 12 bits whose sum is 4095 and 4096.
		{0x1800, 0x27ff, 0, 0x3fff, y | x},
		{0x1800, 0x27ff, c, 0x4000, h},
		{0x1800, 0x27fe, c, 0x3fff, y | x},
		{0x1800, 0x2800, 0, 0x4000, h},
		// Signed sums of 32767 and 32768.
		{0x7000, 0x0fff, 0, 0x7fff, y | x},
		{0x7000, 0x0fff, c, 0x8000, s | h | p},
		{0x7000, 0x1000, 0, 0x8000, s | p},
		{0x7fff, 0, c, 0x8000, s | h | p},
		// Signed sums of -32768 and -32769.
		{0x8000, 0, 0, 0x8000, s},
		{0x8000, 0xffff, 0, 0x7fff, y | x | p | c},
		{0x8000, 0xffff, c, 0x8000, s | h | c},
		{0xc000, 0xc000, 0, 0x8000, s | c},
		{0xc000, 0xbfff, 0, 0x7fff, y | x | p | c},
		// A result of 0, and results of which one byte is 0.
		{0, 0, 0, 0, z},
		{0, 0, c, 1, 0},
		{0, 0x0100, 0, 0x0100, 0},
		{0x8000, 0x8000, 0, 0, z | p | c},
		// S, Y and X of the high byte, whatever the low one is.
		{0x8000, 0x57, 0, 0x8057, s},
		{0x2000, 0xd7, 0, 0x20d7, y},
		{0x0800, 0xd7, 0, 0x08d7, x},
		{0x5700, 0xa8, 0, 0x57a8, 0},
		// Of f, only C plays a part.
		{0x5700, 0, 255 - c, 0x5700, 0},
		{0x5700, 0, 255, 0x5701, 0},
	})
}

func TestP4_2AdcOfManyWords(t *testing.T) { checkAll(t, "Adc", Adc, added) }

func TestP4_2SbcAtTheEdges(t *testing.T) {
	checkRows(t, "Sbc", Sbc, []row{
		{0, 0, c, 0xffff, s | y | h | x | n | c}, // the document's example
		// Differences of 0 and -1, with and without the carry.
		{0x1234, 0x1234, 0, 0, z | n},
		{0x1234, 0x1234, c, 0xffff, s | y | h | x | n | c},
		{0x1234, 0x1233, c, 0, z | n},
		{0x1234, 0x1235, 0, 0xffff, s | y | h | x | n | c},
		{0, 0, 0, 0, z | n},
		{0, 0xffff, c, 0, z | h | n | c},
		// Low 12 bits whose difference is 0 and -1.
		{0x3456, 0x1456, 0, 0x2000, y | n},
		{0x3456, 0x1456, c, 0x1fff, h | x | n},
		{0x3456, 0x1455, c, 0x2000, y | n},
		{0x3456, 0x1457, 0, 0x1fff, h | x | n},
		{0x0100, 1, 0, 0x00ff, n}, // a borrow between the bytes alone is no H
		// Signed differences of 32767 and 32768.
		{0x7fff, 0, 0, 0x7fff, y | x | n},
		{0x7fff, 0xffff, 0, 0x8000, s | p | n | c},
		{0x7fff, 0xffff, c, 0x7fff, y | h | x | n | c},
		{0, 0x8000, 0, 0x8000, s | p | n | c},
		{0, 0x8000, c, 0x7fff, y | h | x | n | c},
		// Signed differences of -32768 and -32769.
		{0x8000, 0, 0, 0x8000, s | n},
		{0x8000, 0, c, 0x7fff, y | h | x | p | n},
		{0x8000, 1, 0, 0x7fff, y | h | x | p | n},
		{0xffff, 0x7fff, 0, 0x8000, s | n},
		{0xffff, 0x7fff, c, 0x7fff, y | h | x | p | n},
		// Results of which one byte is 0.
		{0x0101, 1, 0, 0x0100, n},
		{0x0101, 0x0100, 0, 1, n},
		// S, Y and X of the high byte, whatever the low one is.
		{0x80ff, 0xa8, 0, 0x8057, s | n},
		{0x20ff, 0x28, 0, 0x20d7, y | n},
		{0x08ff, 0x28, 0, 0x08d7, x | n},
		{0x57ff, 0x57, 0, 0x57a8, n},
		// Of f, only C plays a part.
		{0x5701, 0, 255 - c, 0x5701, n},
		{0x5701, 0, 255, 0x5700, n},
	})
}

func TestP4_2SbcOfManyWords(t *testing.T) { checkAll(t, "Sbc", Sbc, taken) }

func TestP4_3MoveAtTheEdges(t *testing.T) {
	for _, m := range []struct {
		w    uint16
		by   int
		want uint16
	}{
		{0x1234, 0, 0x1234},
		{0xffff, 0, 0xffff},
		{0x1234, 1, 0x1235},
		{0x1234, -1, 0x1233},
		{0xffff, 1, 0},
		{0, -1, 0xffff},
		{1, -1, 0},
		{0xfffe, 1, 0xffff},
		{0x8000, 0x7fff, 0xffff},
		{0x8000, 0x8000, 0},
		{0x7fff, -0x8000, 0xffff},
		{0x1234, 65535, 0x1233},
		{0x1234, -65535, 0x1235},
		{0x1234, 65536, 0x1234},
		{0x1234, -65536, 0x1234},
		{0x1234, 65537, 0x1235},
		{0x1234, -65537, 0x1233},
		{0x1234, 10*65536 + 0xf000, 0x0234},
		{0x1234, -10*65536 - 0x1235, 0xffff},
		// The ends of 32 bits, and of an int.
		{0x1234, math.MaxInt32, 0x1233},
		{0x1234, math.MinInt32, 0x1234},
		{0x1234, math.MaxInt, 0x1233},
		{0, math.MaxInt, 0xffff},
		{0xffff, math.MaxInt, 0xfffe}, // the sum is no int
		{0x1234, math.MinInt, 0x1234},
		{0x1234, math.MinInt + 1, 0x1235},
		{0, math.MinInt, 0},
	} {
		if got := Move(m.w, m.by); got != m.want {
			t.Errorf("Move(%#x, %d) = %#x, want %#x", m.w, m.by, got, m.want)
		}
	}
}

func TestP4_3MoveOfManyWords(t *testing.T) {
	for _, w := range edges {
		for by := -200000; by <= 200000; by += 7 {
			want := ((w+by)%65536 + 65536) % 65536
			if got := Move(uint16(w), by); int(got) != want {
				t.Fatalf("Move(%#x, %d) = %#x, want %#x", w, by, got, want)
			}
		}
	}
}

func TestP4_3NearAtTheEdges(t *testing.T) {
	for _, m := range []struct {
		w    uint16
		by   uint8
		want uint16
	}{
		{0x1234, 0, 0x1234},
		{0x1234, 1, 0x1235},
		{0x1234, 0xff, 0x1233},
		{0x1000, 127, 0x107f},
		{0x1000, 128, 0x0f80},
		{0xffff, 127, 0x007e},
		{0xffff, 128, 0xff7f},
		{0, 127, 0x007f},
		{0, 128, 0xff80},
		{0, 0xff, 0xffff},
		{0xff80, 128, 0xff00},
		{0xff81, 127, 0},
		{0x80, 128, 0},
	} {
		if got := Near(m.w, m.by); got != m.want {
			t.Errorf("Near(%#x, %#x) = %#x, want %#x", m.w, m.by, got, m.want)
		}
	}
}

func TestP4_3NearOfAllBytes(t *testing.T) {
	for _, w := range edges {
		for by := range 256 {
			far := by
			if by >= 128 {
				far = by - 256
			}
			want := (w + far + 65536) % 65536
			if got := Near(uint16(w), uint8(by)); int(got) != want {
				t.Fatalf("Near(%#x, %#x) = %#x, want %#x", w, by, got, want)
			}
		}
	}
}

// byBytes does an operation of package sum on the low bytes, then on the high ones; Z is that of the high byte.
func byBytes(do func(a, b uint8, carry bool) (uint8, uint8), a, b uint16, f uint8) (uint16, uint8) {
	lo, low := do(bits.Lo(a), bits.Lo(b), flags.Test(f, 3))
	hi, high := do(bits.Hi(a), bits.Hi(b), flags.Test(low, 3))
	return bits.Word(hi, lo), high
}

func TestP4_4ByteByByte(t *testing.T) {
	many(func(a, b int, f uint8) {
		r, g := Adc(uint16(a), uint16(b), f)
		wantR, wantG := byBytes(sum.Add, uint16(a), uint16(b), f)
		check(t, "Adc", a, b, f, r, g&^z, wantR, wantG&^z)
		r, g = Sbc(uint16(a), uint16(b), f)
		wantR, wantG = byBytes(sum.Sub, uint16(a), uint16(b), f)
		check(t, "Sbc", a, b, f, r, g&^z, wantR, wantG&^z)
	})
}
