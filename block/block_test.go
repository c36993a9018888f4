package block

import (
	"math"
	"testing"

	"charabanc/api"
	"charabanc/flags"
)

const (
	s = api.FlagS
	z = api.FlagZ
	y = api.FlagY
	h = api.FlagH
	x = api.FlagX
	p = api.FlagP
	n = api.FlagN
	c = api.FlagC
)

// someFlags is flag bytes in which each flag is set and clear, alone and among the others.
var someFlags = []uint8{0, s, z, y, h, x, p, n, c, 255 - s, 255 - z, 255 - y, 255 - h, 255 - x, 255 - p, 255 - n, 255 - c, 255}

// someWords is values of BC, among them ones whose low byte, or whose high byte, is 0.
var someWords = []uint16{0, 1, 2, 127, 128, 255, 256, 257, 511, 512, 0x7fff, 0x8000, 0xff00, 0xfffe, 0xffff}

// someBytes is values of B behind an instruction, with an even and an odd number of set bits.
var someBytes = []int{0, 1, 2, 3, 4, 7, 8, 0x10, 0x20, 0x28, 0x40, 0x7f, 0x80, 0x81, 0x87, 0xd7, 0xfe, 0xff}

// someSteps is what C may be moved by: the document's two, and any others.
var someSteps = []int{
	1, -1, 0, 2, -2, 127, 128, 255, 256, 257, 511, 512, -127, -128, -255, -256, -257, -512,
	math.MaxInt32, math.MinInt32, math.MaxInt, math.MaxInt - 1, math.MinInt, math.MinInt + 1,
}

// others is kinds that there are not.
var others = []int{
	-1, -2, -3, -4, -5, -8, -255, -256, math.MinInt32, math.MinInt, math.MinInt + 1,
	4, 5, 6, 7, 8, 9, 16, 255, 256, 257, 258, 259, math.MaxInt32, math.MaxInt - 1, math.MaxInt,
}

// set tells whether the bit with that value is set, by division.
func set(b, value int) bool { return b/value%2 == 1 }

// even tells whether an even number of bits is set, by division.
func even(b int) bool {
	many := 0
	for ; b > 0; b /= 2 {
		many += b % 2
	}
	return many%2 == 0
}

// rest is a number modulo 256, from 0 on.
func rest(v int) int { return (v%256 + 256) % 256 }

// differ is the exclusive disjunction of two bytes, by division.
func differ(a, b int) int {
	r := 0
	for value := 1; value < 256; value *= 2 {
		if set(a, value) != set(b, value) {
			r += value
		}
	}
	return r
}

// moved is Move, by the document's words, in whole numbers.
func moved(a, b, bc, f int) uint8 {
	k := (a + b) % 256
	return flags.Make([8]bool{set(f, s), set(f, z), set(k, 2), false, set(k, 8), bc != 0, false, set(f, c)})
}

// found is Find, by the document's words, in whole numbers.
func found(a, b, bc, f int) uint8 {
	d := rest(a - b)
	half := a%16 < b%16
	k := d
	if half {
		k = rest(d - 1)
	}
	return flags.Make([8]bool{set(d, 128), d == 0, set(k, 2), half, set(k, 8), bc != 0, true, set(f, c)})
}

// passed is Give, by the document's words, in whole numbers.
func passed(b, l, left int) uint8 {
	k := b + l
	return flags.Make([8]bool{set(left, 128), left == 0, set(left, 32), k > 255, set(left, 8), even(differ(k%8, left)), set(b, 128), k > 255})
}

// row is A, a byte, BC and the flags, and the flags that they come to.
type row struct {
	a, b uint8
	bc   uint16
	f, g uint8
}

// looking is the form of Move and Find.
type looking func(a, b uint8, bc uint16, f uint8) uint8

// check fails if the flags aren't those that are wanted.
func check(t *testing.T, what string, do looking, w row) {
	t.Helper()
	if g := do(w.a, w.b, w.bc, w.f); g != w.g {
		t.Fatalf("%s(%#x, %#x, %d, %s) = %s, want %s", what, w.a, w.b, w.bc, flags.Show(w.f), flags.Show(g), flags.Show(w.g))
	}
}

// checkAll fails if the flags of a pair of bytes aren't what the document's words say.
func checkAll(t *testing.T, what string, do looking, want func(a, b, bc, f int) uint8) {
	t.Helper()
	for a := range 256 {
		for b := range 256 {
			for _, bc := range []uint16{0, 1, 256, 0xffff} {
				for _, f := range []uint8{0, c, 255 - c, 255} {
					check(t, what, do, row{uint8(a), uint8(b), bc, f, want(a, b, int(bc), int(f))})
				}
			}
		}
	}
}

func TestP7_1MoveAtTheEdges(t *testing.T) {
	for _, w := range []row{
		{1, 1, 0, 0, y}, // the document's example
		// P is set unless the whole of BC is 0.
		{1, 1, 1, 0, y | p},
		{1, 1, 255, 0, y | p},
		{1, 1, 256, 0, y | p},
		{1, 1, 0xff00, 0, y | p},
		{1, 1, 0xffff, 0, y | p},
		// Bits 1 and 3 of the sum, set and clear, and no other bit of it.
		{0, 0, 0, 0, 0},
		{0, 2, 0, 0, y},
		{2, 0, 0, 0, y},
		{0, 8, 0, 0, x},
		{8, 0, 0, 0, x},
		{5, 5, 0, 0, y | x},
		{0, 0x20, 0, 0, 0},
		{0, 0xf5, 0, 0, 0},
		{0xf5, 0x0a, 0, 0, y | x},
		{2, 2, 0, 0, 0},
		{4, 4, 0, 0, x},
		{0x0a, 0x0a, 0, 0, 0},
		// Sums of 255, of 256, and beyond.
		{0xf0, 0x0f, 0, 0, y | x},
		{0xff, 1, 0, 0, 0},
		{0xff, 3, 0, 0, y},
		{0xf8, 0x10, 0, 0, x},
		{0x80, 0x8a, 0, 0, y | x},
		{0xff, 0xff, 0, 0, y | x},
		// S, Z and C are those of f, whatever the sum is.
		{0xf8, 0x10, 5, 255, s | z | x | p | c},
		{0, 0, 0, 255, s | z | c},
		{0x40, 0x40, 0, 0, 0},
		{0, 0, 0, h | n, 0},
	} {
		check(t, "Move", Move, w)
	}
}

func TestP7_1EachFlagOfF(t *testing.T) {
	for _, f := range someFlags {
		kept := f & (s | z | c)
		check(t, "Move", Move, row{0, 0, 0, f, kept})
		check(t, "Move", Move, row{0xff, 0xff, 1, f, kept | y | x | p})
	}
	for f := range 256 {
		for _, bc := range someWords {
			check(t, "Move", Move, row{0x35, 0x53, bc, uint8(f), moved(0x35, 0x53, int(bc), f)})
		}
	}
}

func TestP7_1AllBytes(t *testing.T) { checkAll(t, "Move", Move, moved) }

func TestP7_2FindAtTheEdges(t *testing.T) {
	for _, w := range []row{
		{5, 5, 1, 0, z | p | n}, // the document's example
		// P is set unless the whole of BC is 0; it tells nothing of the difference.
		{5, 5, 0, 0, z | n},
		{5, 5, 255, 0, z | p | n},
		{5, 5, 256, 0, z | p | n},
		{5, 5, 0xff00, 0, z | p | n},
		{5, 5, 0xffff, 0, z | p | n},
		{0x80, 1, 0, 0, y | h | x | n},
		{0x80, 1, 1, 0, y | h | x | p | n},
		// A difference of 0: Y and X are not those of b.
		{0, 0, 0, 0, z | n},
		{0x28, 0x28, 0, 0, z | n},
		{0xff, 0xff, 0, 0, z | n},
		// Without H: bits 1 and 3 of the difference itself, and no other bit of it.
		{0x02, 0, 0, 0, y | n},
		{0x08, 0, 0, 0, x | n},
		{0x0a, 0, 0, 0, y | x | n},
		{0x20, 0, 0, 0, n},
		{0xf5, 0, 0, 0, s | n},
		{0xff, 0xf5, 0, 0, y | x | n},
		// With H: bits 1 and 3 of one less.
		{0x10, 0x01, 0, 0, y | h | x | n},
		{0x12, 0x0f, 0, 0, y | h | n},
		{0x13, 0x0f, 0, 0, y | h | n},
		{0x10, 0x07, 0, 0, h | x | n},
		{0x10, 0x08, 0, 0, y | h | n},
		{0x11, 0x0f, 0, 0, h | n},
		{0x10, 0x0f, 0, 0, h | n}, // n is 0, but the difference is not
		{0x13, 0x08, 0, 0, y | h | x | n},
		// a below b: C is that of f, and no borrow sets it.
		{0, 1, 2, 0, s | y | h | x | p | n},
		{1, 2, 0, 0, s | y | h | x | n},
		{0, 0x10, 0, 0, s | n},
		{0, 0x80, 0, 0, s | n},
		{0x12, 0x20, 0, c, s | y | n | c},
		{0x10, 0x81, 0, 0, s | y | h | x | n},
		{0, 0xff, 0, 0, h | n},
		// a above b: C is that of f as well.
		{0x10, 1, 0, 1, y | h | x | n | c},
		{2, 1, 0, 0, n},
		{2, 1, 0, 255, n | c},
		{0xff, 0, 0, 0, s | y | x | n},
		{0xff, 0, 0, c, s | y | x | n | c},
	} {
		check(t, "Find", Find, w)
	}
}

func TestP7_2EachFlagOfF(t *testing.T) {
	for _, f := range someFlags {
		check(t, "Find", Find, row{5, 5, 0, f, z | n | f&c})
		check(t, "Find", Find, row{0, 1, 1, f, s | y | h | x | p | n | f&c})
	}
	for f := range 256 {
		for _, bc := range someWords {
			check(t, "Find", Find, row{0x35, 0x53, bc, uint8(f), found(0x35, 0x53, int(bc), f)})
		}
	}
}

func TestP7_2AllBytes(t *testing.T) { checkAll(t, "Find", Find, found) }

// checkTake fails if Take doesn't answer those flags.
func checkTake(t *testing.T, b, c, left uint8, by int, want uint8) {
	t.Helper()
	if g := Take(b, c, left, by); g != want {
		t.Fatalf("Take(%#x, %#x, %#x, %d) = %s, want %s", b, c, left, by, flags.Show(g), flags.Show(want))
	}
}

// checkGive fails if Give doesn't answer those flags.
func checkGive(t *testing.T, b, l, left, want uint8) {
	t.Helper()
	if g := Give(b, l, left); g != want {
		t.Fatalf("Give(%#x, %#x, %#x) = %s, want %s", b, l, left, flags.Show(g), flags.Show(want))
	}
}

func TestP7_3TakeAtTheEdges(t *testing.T) {
	for _, w := range []struct {
		b, c, left uint8
		by         int
		g          uint8
	}{
		// k of 255, of 256, and of 0.
		{0x80, 0x80, 1, -1, p | n},
		{0x80, 0x81, 1, -1, h | n | c},
		{0x80, 0x7f, 0, 1, z | h | p | n | c},
		{0, 1, 0, -1, z | p},
		{0, 1, 1, -1, 0},
		// C of 0 and of 255: the sum of C and by wraps round, so that it does not carry itself.
		{0, 0, 0, -1, z},
		{1, 0, 0, -1, z | h | p | c},
		{0, 255, 0, 1, z | p},
		{0x80, 255, 0, 1, z | p | n},
		{255, 255, 0, 1, z | n},
		{0, 0, 0, 1, z},
		{255, 0, 0, 1, z | h | p | n | c},
		{1, 255, 0, -1, z},
		{2, 255, 0, -1, z | h | p | c},
		// Any other by.
		{0, 0, 0, 0, z | p},
		{1, 255, 0, 0, z | h | p | c},
		{0, 7, 0, 256, z},
		{0, 7, 0, -256, z},
		{1, 0, 0, 255, z | h | p | c},
		{0, 255, 0, -255, z | p},
		{0, 255, 0, 257, z | p},
		{0, 250, 0, 13, z},
		{1, 0, 0, math.MaxInt, z | h | p | c},
		{0, 0, 0, math.MaxInt, z},
		{0, 255, 0, math.MaxInt, z | p},
		{0, 0, 0, math.MinInt, z | p},
		{1, 255, 0, math.MinInt, z | h | p | c},
		{0, 255, 0, math.MinInt + 1, z | p},
	} {
		checkTake(t, w.b, w.c, w.left, w.by, w.g)
	}
}

func TestP7_3GiveAtTheEdges(t *testing.T) {
	for _, w := range []struct{ b, l, left, g uint8 }{
		// k of 255, of 256, and of 0.
		{255, 0, 1, p | n},
		{255, 1, 1, h | n | c},
		{0, 255, 0, z},
		{1, 255, 0, z | h | p | c},
		{0, 0, 0, z | p},
		{255, 255, 0, z | h | p | n | c},
		// left of 0, of 1, of 128, and others: S, Z, Y and X are its own.
		{0, 0, 1, 0},
		{0, 0, 128, s},
		{1, 0, 128, s | p},
		{0, 0, 0x20, y},
		{0, 0, 0x08, x},
		{0, 0, 0x28, y | x | p},
		{0, 0, 0xd7, s | p},
		{0, 0, 255, s | y | x | p},
		{1, 0, 255, s | y | x},
		// P asks for bits 0 to 2 of k, and for all bits of left.
		{1, 0, 0, z},
		{2, 0, 0, z},
		{3, 0, 0, z | p},
		{4, 0, 0, z},
		{7, 0, 0, z},
		{8, 0, 0, z | p},
		{0x28, 0x10, 0, z | p},
		{0x78, 0, 0, z | p},
		{3, 0, 3, p},
		{3, 0, 2, 0},
		{0x80, 0x87, 0, z | h | n | c},
		{0x80, 0x88, 0, z | h | p | n | c},
		// N is bit 7 of b, not that of k, of l or of left.
		{0x80, 0, 0, z | p | n},
		{0x7f, 0x80, 0, z},
		{0x7f, 0x81, 0, z | h | p | c},
		{0x40, 0x40, 0, z | p},
		{0x80, 0x80, 0, z | h | p | n | c},
	} {
		checkGive(t, w.b, w.l, w.left, w.g)
		checkTake(t, w.b, w.l-1, w.left, 1, w.g)
		checkTake(t, w.b, w.l+1, w.left, -1, w.g)
	}
}

func TestP7_3AllBytes(t *testing.T) {
	for b := range 256 {
		for l := range 256 {
			for _, left := range someBytes {
				want := passed(b, l, left)
				checkGive(t, uint8(b), uint8(l), uint8(left), want)
				checkTake(t, uint8(b), uint8(rest(l-1)), uint8(left), 1, want)
				checkTake(t, uint8(b), uint8(rest(l+1)), uint8(left), -1, want)
			}
		}
	}
}

func TestP7_3AllOfWhatIsLeft(t *testing.T) {
	for left := range 256 {
		for k := range 16 {
			for _, b := range []int{0, 0x78, 0x80, 0xf8} {
				checkGive(t, uint8(b), uint8(k), uint8(left), passed(b, k, left))
				checkTake(t, uint8(b), uint8(k), uint8(left), 0, passed(b, k, left))
			}
		}
	}
}

func TestP7_3TakeByAnyInt(t *testing.T) {
	for _, by := range someSteps {
		for c := range 256 {
			for _, b := range []int{0, 1, 0x7f, 0x80, 0xff} {
				checkTake(t, uint8(b), uint8(c), 0x28, by, passed(b, rest(c+rest(by)), 0x28))
			}
		}
	}
}

// checkAgain fails if Again doesn't answer that.
func checkAgain(t *testing.T, kind int, f uint8, want bool) {
	t.Helper()
	if got := Again(kind, f); got != want {
		t.Fatalf("Again(%d, %s) = %v, want %v", kind, flags.Show(f), got, want)
	}
}

func TestP7_4EachKindWithPAndZ(t *testing.T) {
	for _, w := range []struct {
		f    uint8
		goes [4]bool // of the kinds 0 to 3
	}{
		{0, [4]bool{false, false, true, true}},
		{p, [4]bool{true, true, true, true}},
		{z, [4]bool{false, false, false, false}},
		{z | p, [4]bool{true, false, false, false}},
		{255 - p - z, [4]bool{false, false, true, true}},
		{255 - z, [4]bool{true, true, true, true}},
		{255 - p, [4]bool{false, false, false, false}},
		{255, [4]bool{true, false, false, false}},
	} {
		for kind, want := range w.goes {
			checkAgain(t, kind, w.f, want)
		}
	}
}

func TestP7_4AllFlags(t *testing.T) {
	for f := range 256 {
		left, zero := set(f, p), set(f, z)
		for kind, want := range []bool{left, left && !zero, !zero, !zero} {
			checkAgain(t, kind, uint8(f), want)
		}
	}
}

func TestP7_4NoOtherKindRepeats(t *testing.T) {
	for _, kind := range others {
		for f := range 256 {
			checkAgain(t, kind, uint8(f), false)
		}
	}
}

func TestP7_5CompareGoesOnWhileBytesAreLeftAndNoneWasEqual(t *testing.T) {
	for a := range 256 {
		for b := range 256 {
			for _, bc := range someWords {
				for _, f := range []uint8{0, c, z, p, z | p, 255 - c, 255} {
					got := Again(1, Find(uint8(a), uint8(b), bc, f))
					if want := bc != 0 && a != b; got != want {
						t.Fatalf("behind Find(%#x, %#x, %d, %s), Again = %v, want %v", a, b, bc, flags.Show(f), got, want)
					}
				}
			}
		}
	}
}

// looked is how many bytes a repeated compare looks at, and its last flags; beyond the bytes of the text there are zeros.
func looked(a uint8, text []uint8, bc uint16, f uint8) (int, uint8) {
	// A compare that does not end is stopped behind all bytes that there can be.
	for many := 1; many <= 1<<16; many++ {
		var b uint8
		if many <= len(text) {
			b = text[many-1]
		}
		bc--
		f = Find(a, b, bc, f)
		if !Again(1, f) {
			return many, f
		}
	}
	return math.MaxInt, f
}

func TestP7_5RepeatedCompareStopsAtTheFirstEqualByte(t *testing.T) {
	for size := 1; size <= 300; size++ {
		for _, at := range []int{0, 1, size / 2, size - 1, size, -1} {
			text := make([]uint8, 2*size+2)
			want := size
			if at >= 0 {
				text[at], text[at+1] = 7, 7 // the second one is not looked at
				want = min(at+1, size)
			}
			many, f := looked(7, text, uint16(size), z|p|c)
			if many != want || set(int(f), z) != (at >= 0 && at < size) || set(int(f), p) != (want < size) {
				t.Fatalf("of %d bytes, with an equal one at %d, it looks at %d, then %s", size, at, many, flags.Show(f))
			}
		}
	}
}

func TestP7_5RepeatedCompareGoesThroughAllMemory(t *testing.T) {
	// BC of 0 wraps round: 65536 bytes are looked at.
	if many, f := looked(7, nil, 0, 0); many != 65536 || set(int(f), z) || set(int(f), p) {
		t.Fatalf("it looks at %d bytes, then %s", many, flags.Show(f))
	}
}
