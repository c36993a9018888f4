package times

import (
	"bytes"
	"math"
	"slices"
	"strconv"
	"strings"
	"testing"

	"charabanc/api"
	"charabanc/decode"
)

// planes is the seven planes.
var planes = []int{api.Plain, api.CB, api.ED, api.DD, api.FD, api.DDCB, api.FDCB}

// others is numbers that are no planes, among them ones that are planes modulo 8, 256 and 2^32.
var others = []int{
	-1, -2, -4, -5, -7, -8, -253, -256, math.MinInt32, math.MinInt, math.MinInt + 1, math.MinInt + 3,
	7, 8, 9, 11, 13, 15, 16, 255, 256, 257, 258, 259, 261, 1<<32 + 1, 1<<32 + 3, 1<<32 + 5, math.MaxInt32, math.MaxInt - 1, math.MaxInt,
}

// The states of the codes 0 to 255, a row for each 16 of them, if no condition holds and nothing is repeated.
const (
	rowsPlain = `
		4 10  7  6  4  4  7  4   4 11  7  6  4  4  7  4
		8 10  7  6  4  4  7  4  12 11  7  6  4  4  7  4
		7 10 16  6  4  4  7  4   7 11 16  6  4  4  7  4
		7 10 13  6 11 11 10  4   7 11 13  6  4  4  7  4
		4  4  4  4  4  4  7  4   4  4  4  4  4  4  7  4
		4  4  4  4  4  4  7  4   4  4  4  4  4  4  7  4
		4  4  4  4  4  4  7  4   4  4  4  4  4  4  7  4
		7  7  7  7  7  7  4  7   4  4  4  4  4  4  7  4
		4  4  4  4  4  4  7  4   4  4  4  4  4  4  7  4
		4  4  4  4  4  4  7  4   4  4  4  4  4  4  7  4
		4  4  4  4  4  4  7  4   4  4  4  4  4  4  7  4
		4  4  4  4  4  4  7  4   4  4  4  4  4  4  7  4
		5 10 10 10 10 11  7 11   5 10 10  4 10 17  7 11
		5 10 10 11 10 11  7 11   5  4 10 11 10  4  7 11
		5 10 10 19 10 11  7 11   5  4 10  4 10  4  7 11
		5 10 10  4 10 11  7 11   5  6 10  4 10  4  7 11`

	rowsIndex = `
		 8 14 11 10  8  8 11  8   8 15 11 10  8  8 11  8
		12 14 11 10  8  8 11  8  16 15 11 10  8  8 11  8
		11 14 20 10  8  8 11  8  11 15 20 10  8  8 11  8
		11 14 17 10 23 23 19  8  11 15 17 10  8  8 11  8
		 8  8  8  8  8  8 19  8   8  8  8  8  8  8 19  8
		 8  8  8  8  8  8 19  8   8  8  8  8  8  8 19  8
		 8  8  8  8  8  8 19  8   8  8  8  8  8  8 19  8
		19 19 19 19 19 19  8 19   8  8  8  8  8  8 19  8
		 8  8  8  8  8  8 19  8   8  8  8  8  8  8 19  8
		 8  8  8  8  8  8 19  8   8  8  8  8  8  8 19  8
		 8  8  8  8  8  8 19  8   8  8  8  8  8  8 19  8
		 8  8  8  8  8  8 19  8   8  8  8  8  8  8 19  8
		 9 14 14 14 14 15 11 15   9 14 14  8 14 21 11 15
		 9 14 14 15 14 15 11 15   9  8 14 15 14  8 11 15
		 9 14 14 23 14 15 11 15   9  8 14  8 14  8 11 15
		 9 14 14  8 14 15 11 15   9 10 14  8 14  8 11 15`

	rowsCB = `
		8 8 8 8 8 8 15 8  8 8 8 8 8 8 15 8
		8 8 8 8 8 8 15 8  8 8 8 8 8 8 15 8
		8 8 8 8 8 8 15 8  8 8 8 8 8 8 15 8
		8 8 8 8 8 8 15 8  8 8 8 8 8 8 15 8
		8 8 8 8 8 8 12 8  8 8 8 8 8 8 12 8
		8 8 8 8 8 8 12 8  8 8 8 8 8 8 12 8
		8 8 8 8 8 8 12 8  8 8 8 8 8 8 12 8
		8 8 8 8 8 8 12 8  8 8 8 8 8 8 12 8
		8 8 8 8 8 8 15 8  8 8 8 8 8 8 15 8
		8 8 8 8 8 8 15 8  8 8 8 8 8 8 15 8
		8 8 8 8 8 8 15 8  8 8 8 8 8 8 15 8
		8 8 8 8 8 8 15 8  8 8 8 8 8 8 15 8
		8 8 8 8 8 8 15 8  8 8 8 8 8 8 15 8
		8 8 8 8 8 8 15 8  8 8 8 8 8 8 15 8
		8 8 8 8 8 8 15 8  8 8 8 8 8 8 15 8
		8 8 8 8 8 8 15 8  8 8 8 8 8 8 15 8`

	rowsED = `
		 8  8  8  8 8  8 8  8   8  8  8  8 8  8 8  8
		 8  8  8  8 8  8 8  8   8  8  8  8 8  8 8  8
		 8  8  8  8 8  8 8  8   8  8  8  8 8  8 8  8
		 8  8  8  8 8  8 8  8   8  8  8  8 8  8 8  8
		12 12 15 20 8 14 8  9  12 12 15 20 8 14 8  9
		12 12 15 20 8 14 8  9  12 12 15 20 8 14 8  9
		12 12 15 20 8 14 8 18  12 12 15 20 8 14 8 18
		12 12 15 20 8 14 8  8  12 12 15 20 8 14 8  8
		 8  8  8  8 8  8 8  8   8  8  8  8 8  8 8  8
		 8  8  8  8 8  8 8  8   8  8  8  8 8  8 8  8
		16 16 16 16 8  8 8  8  16 16 16 16 8  8 8  8
		16 16 16 16 8  8 8  8  16 16 16 16 8  8 8  8
		 8  8  8  8 8  8 8  8   8  8  8  8 8  8 8  8
		 8  8  8  8 8  8 8  8   8  8  8  8 8  8 8  8
		 8  8  8  8 8  8 8  8   8  8  8  8 8  8 8  8
		 8  8  8  8 8  8 8  8   8  8  8  8 8  8 8  8`
)

// The codes that take more states if something holds: of the planes Plain, DD and FD, and of ED.
var (
	jumps   = []byte{0x10, 0x20, 0x28, 0x30, 0x38}
	returns = []byte{0xc0, 0xc8, 0xd0, 0xd8, 0xe0, 0xe8, 0xf0, 0xf8}
	calls   = []byte{0xc4, 0xcc, 0xd4, 0xdc, 0xe4, 0xec, 0xf4, 0xfc}
	repeats = []byte{0xb0, 0xb1, 0xb2, 0xb3, 0xb8, 0xb9, 0xba, 0xbb}
)

// numbers is the 256 numbers of rows.
func numbers(rows string) []int {
	var l []int
	for _, word := range strings.Fields(rows) {
		n, err := strconv.Atoi(word)
		if err != nil {
			panic(err)
		}
		l = append(l, n)
	}
	if len(l) != 256 {
		panic("rows of " + strconv.Itoa(len(l)) + " numbers")
	}
	return l
}

// document is the document's table.
var document = numbers(rowsPlain)

// unheldBy is the states of a plane's codes, by the rows, if nothing holds.
func unheldBy(plane int) []int {
	switch plane {
	case api.Plain:
		return document
	case api.DD, api.FD:
		return numbers(rowsIndex)
	case api.CB:
		return numbers(rowsCB)
	case api.ED:
		return numbers(rowsED)
	}
	return slices.Concat(slices.Repeat([]int{23}, 64), slices.Repeat([]int{20}, 64), slices.Repeat([]int{23}, 128))
}

// moreBy is what a code takes in addition, by the lists, if something holds.
func moreBy(plane int, code byte) int {
	switch plane {
	case api.Plain, api.DD, api.FD:
		switch {
		case slices.Contains(jumps, code):
			return 5
		case slices.Contains(returns, code):
			return 6
		case slices.Contains(calls, code):
			return 7
		}
	case api.ED:
		if slices.Contains(repeats, code) {
			return 5
		}
	}
	return 0
}

// worded is Of, by the document's words.
func worded(o api.Op, taken bool) int {
	x, y, z := int(o.Code)/64, int(o.Code)/8%8, int(o.Code)%8
	plainly := document[o.Code]
	if taken {
		switch {
		case o.Code == 0x10, o.Code == 0x20, o.Code == 0x28, o.Code == 0x30, o.Code == 0x38:
			plainly += 5
		case x == 3 && z == 0:
			plainly += 6
		case x == 3 && z == 4:
			plainly += 7
		}
	}
	n := 0
	switch o.Plane {
	case api.Plain:
		n = plainly
	case api.DD, api.FD:
		n = 4 + plainly
		one := y == 6 && z != 6 || y != 6 && z == 6
		if o.Code == 0x36 {
			n += 5
		} else if x == 1 && one || x == 2 && z == 6 || x == 0 && y == 6 && (z == 4 || z == 5) {
			n += 8
		}
	case api.CB:
		n = 8
		if z == 6 {
			n = 15
		}
		if z == 6 && x == 1 {
			n = 12
		}
	case api.DDCB, api.FDCB:
		n = 23
		if x == 1 {
			n = 20
		}
	case api.ED:
		n = wordedED(x, y, z, taken)
	default:
		return 0
	}
	return 4*o.Skip + n
}

// wordedED is Of of the plane ED without ignored prefixes, by the document's words.
func wordedED(x, y, z int, taken bool) int {
	if x == 1 {
		switch {
		case z == 0, z == 1:
			return 12
		case z == 2:
			return 15
		case z == 3:
			return 20
		case z == 5:
			return 14
		case z == 7 && y <= 3:
			return 9
		case z == 7 && (y == 4 || y == 5):
			return 18
		}
		return 8
	}
	if x == 2 && z <= 3 && y >= 4 {
		if (y == 6 || y == 7) && taken {
			return 21
		}
		return 16
	}
	return 8
}

// checkOf fails if Of doesn't answer those numbers, or Asks anything but whether they differ.
func checkOf(t *testing.T, o api.Op, no, yes int) {
	t.Helper()
	if n := Of(o, false); n != no {
		t.Fatalf("Of(%+v, false) = %d, want %d", o, n, no)
	}
	if n := Of(o, true); n != yes {
		t.Fatalf("Of(%+v, true) = %d, want %d", o, n, yes)
	}
	if is := Asks(o); is != (no != yes) {
		t.Fatalf("Asks(%+v) = %v, but %d and %d states", o, is, no, yes)
	}
}

// checkAll fails if All doesn't answer that number.
func checkAll(t *testing.T, b []byte, want int) {
	t.Helper()
	if n := All(b); n != want {
		t.Fatalf("All(% x) = %d, want %d", b, n, want)
	}
}

func TestP10_1TableIsTheDocuments(t *testing.T) {
	for code, n := range Table() {
		if n != document[code] {
			t.Errorf("Table()[%#x] = %d, want %d", code, n, document[code])
		}
	}
}

func TestP10_1AChangeOfTheTableChangesNoAnswer(t *testing.T) {
	was := Table()
	one := Table()
	for code := range one {
		one[code] = -1
	}
	if Table() != was {
		t.Error("Table changed")
	}
	for code := range 256 {
		if n := Of(api.Op{Code: byte(code)}, false); n != was[code] {
			t.Errorf("Of code %#x became %d", code, n)
		}
	}
	checkAll(t, []byte{0x00, 0xdd, 0x36, 0x05, 0x07}, 23)
}

func TestP10_1OfPlainIsTheTable(t *testing.T) {
	for code, n := range Table() {
		checkOf(t, api.Op{Code: byte(code)}, n, n+moreBy(api.Plain, byte(code)))
	}
}

func TestP10_1AllCodesInAllPlanes(t *testing.T) {
	for _, plane := range planes {
		for code, n := range unheldBy(plane) {
			checkOf(t, api.Op{Plane: plane, Code: byte(code)}, n, n+moreBy(plane, byte(code)))
		}
	}
}

func TestP10_1ByTheWords(t *testing.T) {
	for _, plane := range slices.Concat(planes, others) {
		for code := range 256 {
			for _, skip := range []int{0, 1, 2, 3, 100, 1 << 20} {
				o := api.Op{Plane: plane, Code: byte(code), Skip: skip}
				checkOf(t, o, worded(o, false), worded(o, true))
			}
		}
	}
}

func TestP10_1AtTheEdges(t *testing.T) {
	for _, w := range []struct {
		o       api.Op
		no, yes int
	}{
		// The document's examples.
		{api.Op{Plane: api.DD, Code: 0x36, Disp: 5, Imm: 7, Len: 4}, 19, 19},
		{api.Op{Plane: api.ED, Code: 0xb0, Len: 2}, 16, 21},
		{api.Op{Code: 0xcd}, 17, 17},
		// The additional states of Plain, beside codes that have none.
		{api.Op{Code: 0x00}, 4, 4},
		{api.Op{Code: 0x08}, 4, 4},
		{api.Op{Code: 0x10}, 8, 13},
		{api.Op{Code: 0x18}, 12, 12},
		{api.Op{Code: 0x20}, 7, 12},
		{api.Op{Code: 0x28}, 7, 12},
		{api.Op{Code: 0x30}, 7, 12},
		{api.Op{Code: 0x38}, 7, 12},
		{api.Op{Code: 0x40}, 4, 4},
		{api.Op{Code: 0x80}, 4, 4},
		{api.Op{Code: 0xc0}, 5, 11},
		{api.Op{Code: 0xf8}, 5, 11},
		{api.Op{Code: 0xc9}, 10, 10},
		{api.Op{Code: 0xc2}, 10, 10},
		{api.Op{Code: 0xc4}, 10, 17},
		{api.Op{Code: 0xfc}, 10, 17},
		{api.Op{Code: 0xff}, 11, 11},
		// Prefixes as codes.
		{api.Op{Code: 0xcb}, 4, 4},
		{api.Op{Code: 0xdd}, 4, 4},
		{api.Op{Code: 0xed}, 4, 4},
		{api.Op{Code: 0xfd}, 4, 4},
		{api.Op{Plane: api.DD, Code: 0xcb}, 8, 8},
		{api.Op{Plane: api.FD, Code: 0xdd}, 8, 8},
		{api.Op{Plane: api.CB, Code: 0xed}, 8, 8},
		{api.Op{Plane: api.ED, Code: 0xfd}, 8, 8},
		{api.Op{Plane: api.FDCB, Code: 0xcb}, 23, 23},
		// DD and FD, with a displacement and without.
		{api.Op{Plane: api.DD, Code: 0x00}, 8, 8},
		{api.Op{Plane: api.FD, Code: 0x34}, 23, 23},
		{api.Op{Plane: api.DD, Code: 0x35}, 23, 23},
		{api.Op{Plane: api.FD, Code: 0x36}, 19, 19},
		{api.Op{Plane: api.DD, Code: 0x46}, 19, 19},
		{api.Op{Plane: api.FD, Code: 0x70}, 19, 19},
		{api.Op{Plane: api.DD, Code: 0x76}, 8, 8},
		{api.Op{Plane: api.FD, Code: 0x86}, 19, 19},
		{api.Op{Plane: api.DD, Code: 0x66}, 19, 19},
		{api.Op{Plane: api.DD, Code: 0x26}, 11, 11},
		{api.Op{Plane: api.FD, Code: 0xe3}, 23, 23},
		{api.Op{Plane: api.DD, Code: 0xe9}, 8, 8},
		// The additional states behind DD and FD.
		{api.Op{Plane: api.DD, Code: 0x10}, 12, 17},
		{api.Op{Plane: api.FD, Code: 0x38}, 11, 16},
		{api.Op{Plane: api.DD, Code: 0xc8}, 9, 15},
		{api.Op{Plane: api.FD, Code: 0xdc}, 14, 21},
		// CB: each x, for z 6 and without.
		{api.Op{Plane: api.CB, Code: 0x00}, 8, 8},
		{api.Op{Plane: api.CB, Code: 0x06}, 15, 15},
		{api.Op{Plane: api.CB, Code: 0x36}, 15, 15},
		{api.Op{Plane: api.CB, Code: 0x40}, 8, 8},
		{api.Op{Plane: api.CB, Code: 0x46}, 12, 12},
		{api.Op{Plane: api.CB, Code: 0x7e}, 12, 12},
		{api.Op{Plane: api.CB, Code: 0x86}, 15, 15},
		{api.Op{Plane: api.CB, Code: 0xc4}, 8, 8},
		{api.Op{Plane: api.CB, Code: 0xfe}, 15, 15},
		// DDCB and FDCB: each x, and z plays no part.
		{api.Op{Plane: api.DDCB, Code: 0x00}, 23, 23},
		{api.Op{Plane: api.FDCB, Code: 0x3f}, 23, 23},
		{api.Op{Plane: api.DDCB, Code: 0x40}, 20, 20},
		{api.Op{Plane: api.FDCB, Code: 0x7e}, 20, 20},
		{api.Op{Plane: api.DDCB, Code: 0x80}, 23, 23},
		{api.Op{Plane: api.FDCB, Code: 0xc4}, 23, 23},
		// ED with x 1: each z, and each y of z 7.
		{api.Op{Plane: api.ED, Code: 0x70}, 12, 12},
		{api.Op{Plane: api.ED, Code: 0x71}, 12, 12},
		{api.Op{Plane: api.ED, Code: 0x4a}, 15, 15},
		{api.Op{Plane: api.ED, Code: 0x63}, 20, 20},
		{api.Op{Plane: api.ED, Code: 0x7c}, 8, 8},
		{api.Op{Plane: api.ED, Code: 0x4d}, 14, 14},
		{api.Op{Plane: api.ED, Code: 0x5e}, 8, 8},
		{api.Op{Plane: api.ED, Code: 0x47}, 9, 9},
		{api.Op{Plane: api.ED, Code: 0x4f}, 9, 9},
		{api.Op{Plane: api.ED, Code: 0x57}, 9, 9},
		{api.Op{Plane: api.ED, Code: 0x5f}, 9, 9},
		{api.Op{Plane: api.ED, Code: 0x67}, 18, 18},
		{api.Op{Plane: api.ED, Code: 0x6f}, 18, 18},
		{api.Op{Plane: api.ED, Code: 0x77}, 8, 8},
		{api.Op{Plane: api.ED, Code: 0x7f}, 8, 8},
		// ED with x 2: y below 4, z above 3, and y 4 and 5 against 6 and 7.
		{api.Op{Plane: api.ED, Code: 0x80}, 8, 8},
		{api.Op{Plane: api.ED, Code: 0x9b}, 8, 8},
		{api.Op{Plane: api.ED, Code: 0xa4}, 8, 8},
		{api.Op{Plane: api.ED, Code: 0xbc}, 8, 8},
		{api.Op{Plane: api.ED, Code: 0xbf}, 8, 8},
		{api.Op{Plane: api.ED, Code: 0xa0}, 16, 16},
		{api.Op{Plane: api.ED, Code: 0xab}, 16, 16},
		{api.Op{Plane: api.ED, Code: 0xb3}, 16, 21},
		{api.Op{Plane: api.ED, Code: 0xb8}, 16, 21},
		// ED with x 0 and x 3: the conditions of Plain play no part.
		{api.Op{Plane: api.ED, Code: 0x00}, 8, 8},
		{api.Op{Plane: api.ED, Code: 0x38}, 8, 8},
		{api.Op{Plane: api.ED, Code: 0xc0}, 8, 8},
		{api.Op{Plane: api.ED, Code: 0xc4}, 8, 8},
		{api.Op{Plane: api.ED, Code: 0xff}, 8, 8},
		// Ignored prefixes.
		{api.Op{Plane: api.FD, Code: 0xc8, Skip: 1}, 13, 19},
		{api.Op{Plane: api.ED, Code: 0xb0, Skip: 2}, 24, 29},
		{api.Op{Plane: api.DDCB, Code: 0x46, Skip: 3}, 32, 32},
		{api.Op{Plane: api.FDCB, Code: 0x06, Skip: 1000}, 4023, 4023},
		{api.Op{Skip: 1}, 8, 8},
		{api.Op{Plane: api.CB, Skip: 1}, 12, 12},
	} {
		checkOf(t, w.o, w.no, w.yes)
	}
}

func TestP10_1OtherPlanesTakeNoStates(t *testing.T) {
	for _, plane := range others {
		for code := range 256 {
			for _, skip := range []int{0, 1, 2, 1000, -1, math.MinInt, math.MaxInt} {
				checkOf(t, api.Op{Plane: plane, Code: byte(code), Disp: 5, Imm: 7, Len: 4, Skip: skip}, 0, 0)
			}
		}
	}
}

func TestP10_1OperandsAndLengthPlayNoPart(t *testing.T) {
	for _, plane := range planes {
		for code, n := range unheldBy(plane) {
			more := moreBy(plane, byte(code))
			for _, disp := range []uint8{0, 1, 0x7f, 0x80, 0xff} {
				for _, imm := range []uint16{0, 1, 0xff, 0x1234, 0x8000, 0xffff} {
					for _, size := range []int{0, 1, 4, -1, 1000, math.MinInt, math.MaxInt} {
						checkOf(t, api.Op{Plane: plane, Code: byte(code), Disp: disp, Imm: imm, Len: size}, n, n+more)
					}
				}
			}
		}
	}
}

func TestP10_1AnySkipIsAnswered(t *testing.T) {
	// Numbers beyond any instruction's: 4 times Skip wraps around, as all of Go's whole numbers do.
	for _, plane := range planes {
		for code, n := range unheldBy(plane) {
			more := moreBy(plane, byte(code))
			for _, skip := range []int{-1, -2, math.MinInt32, math.MinInt, math.MinInt + 1, math.MaxInt32, math.MaxInt / 4, math.MaxInt} {
				checkOf(t, api.Op{Plane: plane, Code: byte(code), Skip: skip}, 4*skip+n, 4*skip+n+more)
			}
		}
	}
}

func TestP10_2AsksOfAllCodesInAllPlanes(t *testing.T) {
	asking := map[int]int{}
	for _, plane := range planes {
		for code := range 256 {
			want := moreBy(plane, byte(code)) != 0
			for _, skip := range []int{0, 1, 7, -1, math.MinInt, math.MaxInt} {
				o := api.Op{Plane: plane, Code: byte(code), Disp: 5, Imm: 0x1234, Len: 4, Skip: skip}
				if is := Asks(o); is != want {
					t.Fatalf("Asks(%+v) = %v, want %v", o, is, want)
				}
			}
			if Asks(api.Op{Plane: plane, Code: byte(code)}) {
				asking[plane]++
			}
		}
	}
	for plane, want := range map[int]int{api.Plain: 21, api.DD: 21, api.FD: 21, api.ED: 8, api.CB: 0, api.DDCB: 0, api.FDCB: 0} {
		if asking[plane] != want {
			t.Errorf("%d codes of the plane %d ask, want %d", asking[plane], plane, want)
		}
	}
}

func TestP10_2NoOtherPlaneAsks(t *testing.T) {
	for _, plane := range others {
		for code := range 256 {
			if o := (api.Op{Plane: plane, Code: byte(code), Skip: 1}); Asks(o) {
				t.Fatalf("Asks(%+v) holds", o)
			}
		}
	}
}

func TestP10_2AllAtTheEdges(t *testing.T) {
	for _, w := range []struct {
		b []byte
		n int
	}{
		{nil, 0},
		{[]byte{}, 0},
		{[]byte{0x00}, 4},
		{[]byte{0x3e, 0x07, 0x76}, 11},
		// Of a condition, it is the number if it doesn't hold.
		{[]byte{0x10, 0xfe, 0x18, 0xfe, 0x20, 0x00, 0xc0, 0xc4, 0x34, 0x12, 0xed, 0xb0}, 8 + 12 + 7 + 5 + 10 + 16},
		{[]byte{0xdd, 0xc4, 0x34, 0x12}, 14},
		// Bytes that end within an instruction: what is read of it takes no part, nor does what could be read behind its first byte.
		{[]byte{0x3e}, 0},
		{[]byte{0x21, 0x76}, 0},
		{[]byte{0xcb}, 0},
		{[]byte{0xed}, 0},
		{[]byte{0xdd}, 0},
		{[]byte{0xfd, 0xcb, 0x76}, 0},
		{[]byte{0x76, 0xdd, 0x36, 0x76}, 4},
		{[]byte{0x3e, 0x01, 0xdd, 0x7e, 0x00, 0xcb}, 26},
		{[]byte{0x76, 0xdd, 0xfd, 0xdd}, 4},
		// Prefixes that play no part.
		{[]byte{0xdd, 0xfd, 0x21, 0x34, 0x12}, 18},
		{[]byte{0xdd, 0xed, 0xb0}, 20},
		{[]byte{0xdd, 0xdd, 0xfd, 0xcb, 0x05, 0x46}, 28},
		{[]byte{0xfd, 0xfd, 0xfd, 0xfd, 0x00, 0xdd, 0xdd, 0x76}, 20 + 12},
		// Prefixes as codes, displacements and numbers.
		{[]byte{0xcb, 0xdd, 0xed, 0xfd, 0xdd, 0x7e, 0xcb, 0x3e, 0xed}, 8 + 8 + 19 + 7},
	} {
		checkAll(t, w.b, w.n)
	}
}

func TestP10_2AllOfIgnoredPrefixes(t *testing.T) {
	for many := range 300 {
		b := bytes.Repeat([]byte{0xfd, 0xdd, 0xdd}, 100)[:many]
		checkAll(t, b, 0)
		checkAll(t, append(slices.Clone(b), 0xed, 0x44), 4*many+8)
		checkAll(t, append(slices.Clone(b), 0xdd, 0x36, 0x05, 0x07), 4*many+19)
		checkAll(t, append(slices.Clone(b), 0xfd, 0xcb, 0x05, 0x46), 4*many+20)
	}
}

func TestP10_2AllOfHundredsOfBytes(t *testing.T) {
	var b []byte
	want := 0
	for _, plane := range planes {
		for code, n := range unheldBy(plane) {
			o := api.Op{Plane: plane, Code: byte(code), Disp: 0x76, Imm: 0xdd3e}
			if back, ok := decode.Next(decode.Bytes(o)); !ok || back.Plane != plane || back.Code != o.Code {
				continue // a prefix, which is no instruction
			}
			b = append(b, decode.Bytes(o)...)
			want += n
			checkAll(t, append(slices.Clone(b), 0xdd, 0xcb, 0x05), want)
		}
	}
	if len(b) < 3000 {
		t.Fatalf("%d bytes alone", len(b))
	}
	checkAll(t, b, want)
}

func TestP10_2AllIsTheSumOfWhatDecodeReads(t *testing.T) {
	// A row that goes through all bytes again and again, by steps that share no divisor with 256.
	for step := 1; step < 256; step += 2 {
		b := make([]byte, 700)
		for n := range b {
			b[n] = byte(n*step + n/256)
		}
		ops, _ := decode.All(b)
		want := 0
		for _, o := range ops {
			want += worded(o, false)
		}
		checkAll(t, b, want)
	}
}

func TestP10_3Bounds(t *testing.T) {
	for _, plane := range planes {
		for code := range 256 {
			o := api.Op{Plane: plane, Code: byte(code)}
			no, yes := Of(o, false), Of(o, true)
			if no < 4 || no > 23 || yes < 4 || yes > 23 {
				t.Errorf("%+v takes %d or %d states", o, no, yes)
			}
			if more := yes - no; Asks(o) != (more >= 5 && more <= 7) || !Asks(o) && more != 0 {
				t.Errorf("%+v: a condition adds %d states", o, more)
			}
			// With ignored prefixes, it is no less.
			o.Skip = 1 + code
			if n := Of(o, false); n < 4 || n != no+4*o.Skip {
				t.Errorf("%+v takes %d states", o, n)
			}
		}
	}
}

func TestP10_3TheBoundsAreReached(t *testing.T) {
	least, most := math.MaxInt, 0
	added := map[int]bool{}
	for _, plane := range planes {
		for code := range 256 {
			o := api.Op{Plane: plane, Code: byte(code)}
			least = min(least, Of(o, false))
			most = max(most, Of(o, true))
			added[Of(o, true)-Of(o, false)] = true
		}
	}
	if least != 4 || most != 23 || len(added) != 4 || !added[0] || !added[5] || !added[6] || !added[7] {
		t.Errorf("from %d to %d states, added: %v", least, most, added)
	}
}

func TestNoArgumentIsChanged(t *testing.T) {
	b := []byte{0x3e, 0x07, 0xdd, 0xfd, 0x36, 0x05, 0x07, 0xed, 0xb0, 0xcb, 0x46, 0xdd, 0xcb, 0x05, 0xc0, 0x10, 0xfe, 0xaa, 0xbb, 0xcc}
	was := slices.Clone(b)
	for n := range len(b) + 1 {
		All(b[:n])
	}
	if !bytes.Equal(b, was) {
		t.Errorf("% x became % x", was, b)
	}
}
