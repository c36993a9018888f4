package flags

import (
	"math"
	"strings"
	"testing"

	"charabanc/api"
	"charabanc/bits"
)

// values is the flags from element 0 to element 7, written out as the document names them.
var values = [8]int{128, 64, 32, 16, 8, 4, 2, 1}

// digit tells whether the flag with that value is set, by division.
func digit(f, value int) bool { return f/value%2 == 1 }

// list is the eight booleans of a flag byte, by division.
func list(f int) [8]bool {
	var l [8]bool
	for i, value := range values {
		l[i] = digit(f, value)
	}
	return l
}

// shown is the text of a flag byte, letter by letter.
func shown(f int) string {
	text := ""
	for i, letter := range []string{"S", "Z", "Y", "H", "X", "P", "N", "C"} {
		if !digit(f, values[i]) {
			letter = "-"
		}
		text += letter
	}
	return text
}

// others is conditions that there are not.
var others = []int{-1, -2, -3, -7, -8, -9, -16, -256, math.MinInt32, math.MinInt, math.MinInt + 1, 8, 9, 10, 15, 16, 63, 64, 255, 256, math.MaxInt32, math.MaxInt - 1, math.MaxInt}

func TestP2_1EachFlagByItself(t *testing.T) {
	for i, want := range []uint8{api.FlagS, api.FlagZ, api.FlagY, api.FlagH, api.FlagX, api.FlagP, api.FlagN, api.FlagC} {
		var only [8]bool
		only[i] = true
		if got := Make(only); got != want || int(got) != values[i] {
			t.Errorf("Make of element %d = %d, want %d", i, got, want)
		}
		if got := Of(want); got != only {
			t.Errorf("Of(%d) = %v, want %v", want, got, only)
		}
	}
}

func TestP2_1NoFlagAndAllFlags(t *testing.T) {
	none := [8]bool{}
	all := [8]bool{true, true, true, true, true, true, true, true}
	if got := Make(none); got != 0 {
		t.Errorf("Make of no flag = %d, want 0", got)
	}
	if got := Make(all); got != 255 {
		t.Errorf("Make of all flags = %d, want 255", got)
	}
	if got := Of(0); got != none {
		t.Errorf("Of(0) = %v, want no flag", got)
	}
	if got := Of(255); got != all {
		t.Errorf("Of(255) = %v, want all flags", got)
	}
}

func TestP2_1MakeAndOfOfEveryByte(t *testing.T) {
	for f := range 256 {
		if got := Make(list(f)); int(got) != f {
			t.Fatalf("Make(%v) = %d, want %d", list(f), got, f)
		}
		if got := Of(uint8(f)); got != list(f) {
			t.Fatalf("Of(%d) = %v, want %v", f, got, list(f))
		}
	}
}

func TestP2_2EveryConditionOfEveryByte(t *testing.T) {
	for f := range 256 {
		z, c, p, s := digit(f, 64), digit(f, 1), digit(f, 4), digit(f, 128)
		for cond, want := range []bool{!z, z, !c, c, !p, p, !s, s} {
			if got := Test(uint8(f), cond); got != want {
				t.Fatalf("Test(%d, %d) = %v, want %v", f, cond, got, want)
			}
		}
	}
}

func TestP2_2NoOtherConditionHolds(t *testing.T) {
	for f := range 256 {
		for _, cond := range others {
			if Test(uint8(f), cond) {
				t.Fatalf("Test(%d, %d) = true, want false", f, cond)
			}
		}
	}
}

func TestP2_3ResultExamples(t *testing.T) {
	for r, want := range map[uint8]uint8{
		0:   api.FlagZ,
		255: api.FlagS | api.FlagY | api.FlagX,
		1:   0, 2: 0, 4: 0, 16: 0, 64: 0, // bits 0, 1, 2, 4 and 6 of a result are no flags
		8:    api.FlagX,
		32:   api.FlagY,
		128:  api.FlagS,
		0x57: 0,
		0xa8: api.FlagS | api.FlagY | api.FlagX,
	} {
		if got := Result(r); got != want {
			t.Errorf("Result(%d) = %d, want %d", r, got, want)
		}
	}
}

func TestP2_3ResultOfEveryByte(t *testing.T) {
	for r := range 256 {
		// S, Z, Y, H, X, P, N, C
		want := [8]bool{digit(r, 128), r == 0, digit(r, 32), false, digit(r, 8), false, false, false}
		if got := list(int(Result(uint8(r)))); got != want {
			t.Fatalf("Result(%d) = %v, want %v", r, got, want)
		}
	}
}

func TestP2_3EvenExamples(t *testing.T) {
	for r, want := range map[uint8]uint8{
		0:   api.FlagZ | api.FlagP,
		255: api.FlagS | api.FlagY | api.FlagX | api.FlagP,
		1:   0, 4: 0, 64: 0,
		3:    api.FlagP,
		65:   api.FlagP,
		128:  api.FlagS,
		129:  api.FlagS | api.FlagP,
		0xa8: api.FlagS | api.FlagY | api.FlagX,
	} {
		if got := Even(r); got != want {
			t.Errorf("Even(%d) = %d, want %d", r, got, want)
		}
	}
}

func TestP2_3EvenOfEveryByte(t *testing.T) {
	for r := range 256 {
		want := list(int(Result(uint8(r))))
		want[5] = bits.Even(uint8(r))
		if got := list(int(Even(uint8(r)))); got != want {
			t.Fatalf("Even(%d) = %v, want %v", r, got, want)
		}
	}
}

func TestP2_3KeepExamples(t *testing.T) {
	for _, c := range []struct{ f, old, mask, want uint8 }{
		{0x0f, 0xf0, 0x3c, 0x33},
		{0x5a, 0xa5, 0, 0x5a},
		{0x5a, 0xa5, 255, 0xa5},
		{0, 255, api.FlagC, api.FlagC},
		{255, 0, api.FlagC, 254},
		{api.FlagZ, api.FlagS | api.FlagC, api.FlagS, api.FlagS | api.FlagZ},
	} {
		if got := Keep(c.f, c.old, c.mask); got != c.want {
			t.Errorf("Keep(%d, %d, %d) = %d, want %d", c.f, c.old, c.mask, got, c.want)
		}
	}
}

// kept is Keep, flag by flag.
func kept(f, old, mask int) int {
	sum := 0
	for _, value := range values {
		from := f
		if digit(mask, value) {
			from = old
		}
		if digit(from, value) {
			sum += value
		}
	}
	return sum
}

func TestP2_3KeepOfManyBytes(t *testing.T) {
	for f := 0; f < 256; f += 5 {
		for old := 0; old < 256; old += 3 {
			for mask := range 256 {
				if got, want := Keep(uint8(f), uint8(old), uint8(mask)), kept(f, old, mask); int(got) != want {
					t.Fatalf("Keep(%d, %d, %d) = %d, want %d", f, old, mask, got, want)
				}
			}
		}
	}
}

func TestP2_4ShowExamples(t *testing.T) {
	for f, want := range map[uint8]string{
		0: "--------", 255: "SZYHXPNC", 65: "-Z-----C",
		128: "S-------", 64: "-Z------", 32: "--Y-----", 16: "---H----", 8: "----X---", 4: "-----P--", 2: "------N-", 1: "-------C",
	} {
		if got := Show(f); got != want {
			t.Errorf("Show(%d) = %q, want %q", f, got, want)
		}
	}
}

func TestP2_4ShowAndReadEveryByte(t *testing.T) {
	for f := range 256 {
		if got := Show(uint8(f)); got != shown(f) {
			t.Fatalf("Show(%d) = %q, want %q", f, got, shown(f))
		}
		if got, is := Read(shown(f)); int(got) != f || !is {
			t.Fatalf("Read(%q) = %d, %v, want %d, true", shown(f), got, is, f)
		}
	}
}

// refuse fails if Read takes a text.
func refuse(t *testing.T, s string) {
	t.Helper()
	if f, is := Read(s); f != 0 || is {
		t.Errorf("Read(%q) = %d, %v, want 0, false", s, f, is)
	}
}

func TestP2_4ReadRefusesOtherLengths(t *testing.T) {
	for f := range 256 {
		for n := range 8 {
			refuse(t, shown(f)[:n])
			refuse(t, shown(f)[n+1:])
		}
		for _, more := range []string{"-", "C", "S", " ", "\n", "\x00", shown(f)} {
			refuse(t, shown(f)+more)
			refuse(t, more+shown(f))
		}
	}
	refuse(t, strings.Repeat("-", 65536))
}

func TestP2_4ReadRefusesOtherLetters(t *testing.T) {
	for _, around := range []string{"--------", "SZYHXPNC"} {
		for i := range 8 {
			for letter := range 256 {
				if letter == '-' || letter == int("SZYHXPNC"[i]) {
					continue
				}
				refuse(t, around[:i]+string([]byte{byte(letter)})+around[i+1:])
			}
		}
	}
}

func TestP2_4ReadRefusesLettersInOtherPlaces(t *testing.T) {
	for _, s := range []string{
		"ZSYHXPNC", "CNPXHYZS", "ZYHXPNCS", "CSZYHXPN", "SZYHXPCN",
		"-S------", "------C-", "S------S", "C-------", "szyhxpnc", "--------"[:7] + "c",
		"SZ-H-VNC", "SZ5H3PNC", "........", "        ",
		"SZYHX–", "ÄZYHXPN", // eight bytes, though not eight letters
	} {
		refuse(t, s)
	}
}

func TestP2_5MakeAndOfAreInverse(t *testing.T) {
	for f := range 256 {
		if got := Make(Of(uint8(f))); int(got) != f {
			t.Fatalf("Make(Of(%d)) = %d", f, got)
		}
		if got := Of(Make(list(f))); got != list(f) {
			t.Fatalf("Of(Make(%v)) = %v", list(f), got)
		}
	}
}

func TestP2_5OneOfTwoConditionsHolds(t *testing.T) {
	for f := range 256 {
		for k := range 4 {
			if Test(uint8(f), 2*k) == Test(uint8(f), 2*k+1) {
				t.Fatalf("of flag byte %d, the conditions %d and %d are both %v", f, 2*k, 2*k+1, Test(uint8(f), 2*k))
			}
		}
	}
}
