package sum

import (
	"testing"

	"charabanc/api"
	"charabanc/bits"
	"charabanc/flags"
)

const (
	s = api.FlagS
	z = api.FlagZ
	y = api.FlagY
	h = api.FlagH
	x = api.FlagX
	p = api.FlagP
	n = api.FlagN
	c = api.FlagC
)

// row is two bytes with a carry or borrow, and what they come to.
type row struct {
	a, b uint8
	in   bool
	r, f uint8
}

// number is 1 for a carry or borrow.
func number(in bool) int {
	if in {
		return 1
	}
	return 0
}

// outside tells whether a number is no signed byte.
func outside(v int) bool { return v < -128 || v > 127 }

// flagged is the flag byte of a result, by the document's words.
func flagged(r int, half, over, minus, carry bool) uint8 {
	l := flags.Of(flags.Result(uint8(r)))
	l[3], l[5], l[6], l[7] = half, over, minus, carry
	return flags.Make(l)
}

// added is Add, by the document's words, in whole numbers.
func added(a, b int, in bool) (uint8, uint8) {
	k := number(in)
	total := a + b + k
	over := outside(bits.Signed(uint8(a)) + bits.Signed(uint8(b)) + k)
	r := total % 256
	return uint8(r), flagged(r, a%16+b%16+k > 15, over, false, total > 255)
}

// taken is Sub, by the document's words, in whole numbers.
func taken(a, b int, in bool) (uint8, uint8) {
	k := number(in)
	total := a - b - k
	over := outside(bits.Signed(uint8(a)) - bits.Signed(uint8(b)) - k)
	r := (total + 256) % 256
	return uint8(r), flagged(r, a%16-b%16-k < 0, over, true, total < 0)
}

// all calls visit for all pairs of bytes, with and without a carry or borrow.
func all(visit func(a, b int, in bool)) {
	for a := range 256 {
		for b := range 256 {
			visit(a, b, false)
			visit(a, b, true)
		}
	}
}

// check fails if a number or its flags aren't those that are wanted.
func check(t *testing.T, what string, a, b int, in bool, r, f, wantR, wantF uint8) {
	t.Helper()
	if r != wantR || f != wantF {
		t.Fatalf("%s(%#x, %#x, %v) = %#x %s, want %#x %s", what, a, b, in, r, flags.Show(f), wantR, flags.Show(wantF))
	}
}

func TestP3_1AddAtTheEdges(t *testing.T) {
	for _, w := range []row{
		{127, 1, false, 128, s | h | p}, // the document's example
		{0, 0, false, 0, z},
		{0, 0, true, 1, 0},
		// Sums of 255 and 256, with and without a carry.
		{0xf0, 0x0f, false, 255, s | y | x},
		{0xf0, 0x0f, true, 0, z | h | c},
		{0xf0, 0x0e, true, 255, s | y | x},
		{0xf0, 0x10, false, 0, z | c},
		{255, 0, false, 255, s | y | x},
		{255, 0, true, 0, z | h | c},
		{255, 1, false, 0, z | h | c},
		{255, 255, true, 255, s | y | h | x | c},
		// Low halves whose sum is 15 and 16.
		{0x17, 0x28, false, 0x3f, y | x},
		{0x17, 0x28, true, 0x40, h},
		{0x17, 0x27, true, 0x3f, y | x},
		{0x17, 0x29, false, 0x40, h},
		{0x0f, 0, true, 0x10, h},
		// Signed sums of 127 and 128.
		{100, 27, false, 127, y | x},
		{100, 27, true, 128, s | h | p},
		{100, 28, false, 128, s | h | p},
		{127, 0, true, 128, s | h | p},
		{128, 255, true, 128, s | h | c},
		// Signed sums of -128 and -129.
		{128, 0, false, 128, s},
		{128, 255, false, 127, y | x | p | c},
		{0xc0, 0xc0, false, 128, s | c},
		{0xc0, 0xbf, false, 127, y | x | p | c},
		{0xc0, 0xbf, true, 128, s | h | c},
		{128, 128, false, 0, z | p | c},
	} {
		r, f := Add(w.a, w.b, w.in)
		check(t, "Add", int(w.a), int(w.b), w.in, r, f, w.r, w.f)
	}
}

func TestP3_1AddOfAllBytes(t *testing.T) {
	all(func(a, b int, in bool) {
		r, f := Add(uint8(a), uint8(b), in)
		wantR, wantF := added(a, b, in)
		check(t, "Add", a, b, in, r, f, wantR, wantF)
	})
}

func TestP3_2SubAtTheEdges(t *testing.T) {
	for _, w := range []row{
		{0, 1, false, 255, s | y | h | x | n | c}, // the document's example
		// Differences of 0 and -1, with and without a borrow.
		{0x35, 0x35, false, 0, z | n},
		{0x35, 0x35, true, 255, s | y | h | x | n | c},
		{0x35, 0x34, true, 0, z | n},
		{0x35, 0x36, false, 255, s | y | h | x | n | c},
		{0, 0, false, 0, z | n},
		{0, 0, true, 255, s | y | h | x | n | c},
		{255, 255, false, 0, z | n},
		{0, 255, true, 0, z | h | n | c},
		// Low halves whose difference is 0 and -1.
		{0x35, 0x15, false, 0x20, y | n},
		{0x35, 0x15, true, 0x1f, h | x | n},
		{0x35, 0x14, true, 0x20, y | n},
		{0x35, 0x16, false, 0x1f, h | x | n},
		{0x10, 0x0f, true, 0, z | h | n},
		// Signed differences of 127 and 128.
		{127, 0, false, 127, y | x | n},
		{127, 255, false, 128, s | p | n | c},
		{127, 255, true, 127, y | h | x | n | c},
		{0, 128, false, 128, s | p | n | c},
		{0, 128, true, 127, y | h | x | n | c},
		// Signed differences of -128 and -129.
		{128, 0, false, 128, s | n},
		{128, 0, true, 127, y | h | x | p | n},
		{128, 1, false, 127, y | h | x | p | n},
		{255, 127, false, 128, s | n},
		{255, 127, true, 127, y | h | x | p | n},
	} {
		r, f := Sub(w.a, w.b, w.in)
		check(t, "Sub", int(w.a), int(w.b), w.in, r, f, w.r, w.f)
	}
}

func TestP3_2SubOfAllBytes(t *testing.T) {
	all(func(a, b int, in bool) {
		r, f := Sub(uint8(a), uint8(b), in)
		wantR, wantF := taken(a, b, in)
		check(t, "Sub", a, b, in, r, f, wantR, wantF)
	})
}

func TestP3_2CmpExamples(t *testing.T) {
	for _, w := range []row{
		{0, 0x28, false, 0, s | y | h | x | n | c},
		{0x28, 0x28, false, 0, z | y | x | n}, // Y and X are those of b, though the difference is 0
		{0x28, 0, false, 0, n},                // and not those of the difference
		{0, 1, false, 0, s | h | n | c},
		{0x28, 0x20, false, 0, y | n},
		{0x28, 0x08, false, 0, x | n},
		{128, 1, false, 0, h | p | n},
		{0, 0, false, 0, z | n},
	} {
		check(t, "Cmp", int(w.a), int(w.b), false, 0, Cmp(w.a, w.b), 0, w.f)
	}
}

func TestP3_2CmpOfAllBytes(t *testing.T) {
	for a := range 256 {
		for b := range 256 {
			_, f := taken(a, b, false)
			l := flags.Of(f)
			l[2], l[4] = b/32%2 == 1, b/8%2 == 1
			check(t, "Cmp", a, b, false, 0, Cmp(uint8(a), uint8(b)), 0, flags.Make(l))
		}
	}
}

func TestP3_2NegExamples(t *testing.T) {
	for a, want := range map[uint8][2]uint8{
		0:    {0, z | n},
		1:    {255, s | y | h | x | n | c},
		127:  {129, s | h | n | c},
		128:  {128, s | p | n | c}, // 128 is no signed byte
		129:  {127, y | h | x | n | c},
		255:  {1, h | n | c},
		0x10: {0xf0, s | y | n | c},
	} {
		r, f := Neg(a)
		check(t, "Neg", int(a), 0, false, r, f, want[0], want[1])
	}
}

func TestP3_2NegOfAllBytes(t *testing.T) {
	for a := range 256 {
		r, f := Neg(uint8(a))
		wantR, wantF := taken(0, a, false)
		check(t, "Neg", a, 0, false, r, f, wantR, wantF)
	}
}

func TestP3_3IncAndDecExamples(t *testing.T) {
	for _, w := range []struct {
		what string
		do   func(a, f uint8) (uint8, uint8)
		a, f uint8
		r, g uint8
	}{
		// C is that of f, and no other flag is.
		{"Inc", Inc, 255, 0, 0, z | h},
		{"Inc", Inc, 255, c, 0, z | h | c},
		{"Inc", Inc, 255, 255, 0, z | h | c},
		{"Inc", Inc, 127, 254, 128, s | h | p},
		{"Inc", Inc, 127, c, 128, s | h | p | c},
		{"Inc", Inc, 0, 0, 1, 0},
		{"Inc", Inc, 0, 255, 1, c},
		{"Inc", Inc, 0x0e, 0, 0x0f, x},
		{"Inc", Inc, 0x0f, 0, 0x10, h},
		{"Dec", Dec, 0, 0, 255, s | y | h | x | n},
		{"Dec", Dec, 0, c, 255, s | y | h | x | n | c},
		{"Dec", Dec, 0, 254, 255, s | y | h | x | n},
		{"Dec", Dec, 1, 0, 0, z | n},
		{"Dec", Dec, 1, 255, 0, z | n | c},
		{"Dec", Dec, 128, 0, 127, y | h | x | p | n},
		{"Dec", Dec, 128, c, 127, y | h | x | p | n | c},
		{"Dec", Dec, 0x10, 0, 0x0f, h | x | n},
		{"Dec", Dec, 0x11, 0, 0x10, n},
	} {
		r, g := w.do(w.a, w.f)
		check(t, w.what, int(w.a), int(w.f), false, r, g, w.r, w.g)
	}
}

func TestP3_3IncAndDecOfAllBytes(t *testing.T) {
	for a := range 256 {
		for f := range 256 {
			r, g := Inc(uint8(a), uint8(f))
			wantR, wantF := added(a, 1, false)
			check(t, "Inc", a, f, false, r, g, wantR, wantF/2*2+uint8(f%2))
			r, g = Dec(uint8(a), uint8(f))
			wantR, wantF = taken(a, 1, false)
			check(t, "Dec", a, f, false, r, g, wantR, wantF/2*2+uint8(f%2))
		}
	}
}

func TestP3_4SubtractingWhatWasAdded(t *testing.T) {
	all(func(a, b int, in bool) {
		r, _ := Add(uint8(a), uint8(b), in)
		if back, _ := Sub(r, uint8(b), in); int(back) != a {
			t.Fatalf("%#x + %#x (%v) - %#x (%v) = %#x", a, b, in, b, in, back)
		}
	})
}

func TestP3_4ComparingEqualBytes(t *testing.T) {
	for a := range 256 {
		for b := range 256 {
			if got := Cmp(uint8(a), uint8(b))&z != 0; got != (a == b) {
				t.Fatalf("Z of Cmp(%#x, %#x) is %v", a, b, got)
			}
		}
	}
}

func TestP3_4AddIsCommutative(t *testing.T) {
	all(func(a, b int, in bool) {
		r, f := Add(uint8(a), uint8(b), in)
		wantR, wantF := Add(uint8(b), uint8(a), in)
		check(t, "Add", a, b, in, r, f, wantR, wantF)
	})
}

// carriesOf is the carries of a sum, by what the low bits come to.
func carriesOf(a, b, k, size int) int {
	out := 0
	for value := 1; size > 0; size-- {
		if a%(2*value)+b%(2*value)+k >= 2*value {
			out += value
		}
		value *= 2
	}
	return out
}

func TestP3_1CarriesOfBytesAndWords(t *testing.T) {
	edges := []int{0, 1, 0x0f, 0x10, 0x55, 0xaa, 0xff, 0x100, 0x0fff, 0x1000, 0x1234, 0x7fff, 0x8000, 0xffff}
	for _, a := range edges {
		for _, b := range edges {
			for _, in := range []bool{false, true} {
				if got, want := carries(uint16(a), uint16(b), in), carriesOf(a, b, number(in), 16); int(got) != want {
					t.Fatalf("carries(%#x, %#x, %v) = %#x, want %#x", a, b, in, got, want)
				}
			}
		}
	}
	all(func(a, b int, in bool) {
		if got, want := carries(uint8(a), uint8(b), in), carriesOf(a, b, number(in), 8); int(got) != want {
			t.Fatalf("carries(%#x, %#x, %v) = %#x, want %#x", a, b, in, got, want)
		}
	})
}
