package bits

import (
	"math"
	"testing"
)

// power is the value of bit n, worked out by doubling, so that no test leans on the shifts that it tests.
func power(n int) int {
	value := 1
	for range n {
		value *= 2
	}
	return value
}

// digit is bit n of a byte, by division.
func digit(b, n int) int { return b / power(n) % 2 }

// count is the number of set bits of a byte, by division.
func count(b int) int {
	many := 0
	for ; b > 0; b /= 2 {
		many += b % 2
	}
	return many
}

// outside is numbers of bits that a byte does not have.
var outside = []int{-1, -2, -7, -8, -9, -64, -256, math.MinInt32, math.MinInt, 8, 9, 15, 16, 63, 64, 255, 256, math.MaxInt32, math.MaxInt}

func TestP1_1LoAndHiSplitEveryWord(t *testing.T) {
	for w := range 65536 {
		if got := Lo(uint16(w)); int(got) != w%256 {
			t.Fatalf("Lo(%d) = %d, want %d", w, got, w%256)
		}
		if got := Hi(uint16(w)); int(got) != w/256 {
			t.Fatalf("Hi(%d) = %d, want %d", w, got, w/256)
		}
	}
}

func TestP1_1WordJoinsAllBytes(t *testing.T) {
	if got := Word(18, 52); got != 4660 {
		t.Errorf("Word(18, 52) = %d, want 4660", got)
	}
	for hi := range 256 {
		for lo := range 256 {
			if got := Word(uint8(hi), uint8(lo)); int(got) != 256*hi+lo {
				t.Fatalf("Word(%d, %d) = %d, want %d", hi, lo, got, 256*hi+lo)
			}
		}
	}
}

func TestP1_2IsTellsEveryBit(t *testing.T) {
	for b := range 256 {
		for n := range 8 {
			if got, want := Is(uint8(b), n), digit(b, n) == 1; got != want {
				t.Fatalf("Is(%d, %d) = %v, want %v", b, n, got, want)
			}
		}
	}
}

func TestP1_2IsIsFalseOutside(t *testing.T) {
	for b := range 256 {
		for _, n := range outside {
			if Is(uint8(b), n) {
				t.Fatalf("Is(%d, %d) = true, want false", b, n)
			}
		}
	}
}

func TestP1_2WithSetsAndClearsEveryBit(t *testing.T) {
	for b := range 256 {
		for n := range 8 {
			cleared := b - digit(b, n)*power(n)
			if got := With(uint8(b), n, false); int(got) != cleared {
				t.Fatalf("With(%d, %d, false) = %d, want %d", b, n, got, cleared)
			}
			set := cleared + power(n)
			if got := With(uint8(b), n, true); int(got) != set {
				t.Fatalf("With(%d, %d, true) = %d, want %d", b, n, got, set)
			}
		}
	}
}

func TestP1_2WithChangesNothingOutside(t *testing.T) {
	for b := range 256 {
		for _, n := range outside {
			for _, on := range []bool{false, true} {
				if got := With(uint8(b), n, on); int(got) != b {
					t.Fatalf("With(%d, %d, %v) = %d, want %d", b, n, on, got, b)
				}
			}
		}
	}
}

func TestP1_2FirstIsTheLowestSetBit(t *testing.T) {
	for b, want := range map[uint8]int{0: -1, 1: 0, 2: 1, 96: 5, 127: 0, 128: 7, 129: 0, 192: 6, 255: 0} {
		if got := First(b); got != want {
			t.Errorf("First(%d) = %d, want %d", b, got, want)
		}
	}
	for b := 1; b < 256; b++ {
		want := 0
		for digit(b, want) == 0 {
			want++
		}
		if got := First(uint8(b)); got != want {
			t.Fatalf("First(%d) = %d, want %d", b, got, want)
		}
	}
}

func TestP1_3EvenCountsTheSetBits(t *testing.T) {
	for b, want := range map[uint8]bool{0: true, 1: false, 3: true, 127: false, 128: false, 129: true, 254: false, 255: true} {
		if got := Even(b); got != want {
			t.Errorf("Even(%d) = %v, want %v", b, got, want)
		}
	}
	for b := range 256 {
		if got, want := Even(uint8(b)), count(b)%2 == 0; got != want {
			t.Fatalf("Even(%d) = %v, want %v", b, got, want)
		}
	}
}

func TestP1_3SignedIsTwosComplement(t *testing.T) {
	for b, want := range map[uint8]int{0: 0, 1: 1, 127: 127, 128: -128, 129: -127, 255: -1} {
		if got := Signed(b); got != want {
			t.Errorf("Signed(%d) = %d, want %d", b, got, want)
		}
	}
	for b := range 256 {
		want := b
		if b >= 128 {
			want = b - 256
		}
		if got := Signed(uint8(b)); got != want {
			t.Fatalf("Signed(%d) = %d, want %d", b, got, want)
		}
	}
}

func TestP1_3TurnExamples(t *testing.T) {
	for _, c := range []struct {
		b    uint8
		by   int
		want uint8
	}{
		{129, 0, 129}, {129, 1, 3}, {129, -1, 192}, {1, 7, 128}, {1, -7, 2},
		{129, 8, 129}, {129, -8, 129}, {1, 9, 2}, {1, -9, 128}, {1, 15, 128}, {1, -15, 2}, {0x12, 4, 0x21},
		{0, 3, 0}, {255, 3, 255},
		// The ends of int, 7 and 0 modulo 8, where n + by may leave int.
		{1, math.MaxInt, 128}, {128, math.MaxInt, 64}, {0x90, math.MaxInt - 1, 0x24},
		{1, math.MinInt, 1}, {128, math.MinInt, 128}, {0x90, math.MinInt + 1, 0x21},
	} {
		if got := Turn(c.b, c.by); got != c.want {
			t.Errorf("Turn(%d, %d) = %d, want %d", c.b, c.by, got, c.want)
		}
	}
}

// stepLeft is a byte turned to the left by one, by arithmetic.
func stepLeft(b int) int { return 2*b%256 + b/128 }

func TestP1_3TurnIsAsManySteps(t *testing.T) {
	for b := range 256 {
		left := b
		for by := range 41 {
			if got := Turn(uint8(b), by); int(got) != left {
				t.Fatalf("Turn(%d, %d) = %d, want %d", b, by, got, left)
			}
			// Turning back is turning to the right.
			if got := Turn(uint8(left), -by); int(got) != b {
				t.Fatalf("Turn(%d, %d) = %d, want %d", left, -by, got, b)
			}
			left = stepLeft(left)
		}
	}
}

func TestP1_4WordOfItsHalvesIsTheWord(t *testing.T) {
	for w := range 65536 {
		if got := Word(Hi(uint16(w)), Lo(uint16(w))); int(got) != w {
			t.Fatalf("Word(Hi(%d), Lo(%d)) = %d", w, w, got)
		}
	}
}

func TestP1_4TurnByEightChangesNothing(t *testing.T) {
	for b := range 256 {
		for _, by := range []int{0, 8, -8, 16, -16, 64, -64, 256, -256, 1 << 30, -1 << 30} {
			if got := Turn(uint8(b), by); int(got) != b {
				t.Fatalf("Turn(%d, %d) = %d, want %d", b, by, got, b)
			}
		}
	}
}

func TestP1_4TurnKeepsTheNumberOfSetBits(t *testing.T) {
	for b := range 256 {
		for by := -20; by <= 20; by++ {
			got := Turn(uint8(b), by)
			if count(int(got)) != count(b) {
				t.Fatalf("Turn(%d, %d) = %d: %d bits are set, want %d", b, by, got, count(int(got)), count(b))
			}
			if Even(got) != Even(uint8(b)) {
				t.Fatalf("Even(Turn(%d, %d)) isn't Even(%d)", b, by, b)
			}
		}
	}
}
