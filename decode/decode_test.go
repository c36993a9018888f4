package decode

import (
	"bytes"
	"math"
	"slices"
	"testing"

	"charabanc/api"
)

// planes is the seven planes.
var planes = []int{api.Plain, api.CB, api.ED, api.DD, api.FD, api.DDCB, api.FDCB}

// others is numbers that are no planes, among them ones that are planes modulo 8, 256 and 2^32.
var others = []int{
	-1, -2, -3, -6, -7, -8, -256, -255, math.MinInt32, math.MinInt, math.MinInt + 1, math.MinInt + 3,
	7, 8, 9, 10, 11, 15, 16, 255, 256, 257, 258, 259, 260, 261, 262, 1<<32 + 3, 1<<32 + 5, math.MaxInt32, math.MaxInt - 1, math.MaxInt,
}

// The codes of Plain, DD and FD with an immediate operand, and those of DD and FD with a displacement.
var (
	withOne = []byte{
		0x06, 0x0e, 0x16, 0x1e, 0x26, 0x2e, 0x36, 0x3e, // LD of a register
		0x10, 0x18, 0x20, 0x28, 0x30, 0x38, // DJNZ and JR
		0xc6, 0xce, 0xd6, 0xde, 0xe6, 0xee, 0xf6, 0xfe, // arithmetic
		0xd3, 0xdb, // OUT and IN
	}
	withTwo = []byte{
		0x01, 0x11, 0x21, 0x31, // LD of a pair
		0x22, 0x2a, 0x32, 0x3a, // LD of memory
		0xc2, 0xc3, 0xca, 0xd2, 0xda, 0xe2, 0xea, 0xf2, 0xfa, // JP
		0xc4, 0xcc, 0xcd, 0xd4, 0xdc, 0xe4, 0xec, 0xf4, 0xfc, // CALL
	}
	withDisp = []byte{
		0x34, 0x35, 0x36, // INC, DEC and LD of a number
		0x46, 0x4e, 0x56, 0x5e, 0x66, 0x6e, 0x7e, // LD from memory
		0x70, 0x71, 0x72, 0x73, 0x74, 0x75, 0x77, // LD to memory
		0x86, 0x8e, 0x96, 0x9e, 0xa6, 0xae, 0xb6, 0xbe, // arithmetic
	}
	// The codes of ED with an immediate operand, which has two bytes.
	withTwoED = []byte{0x43, 0x4b, 0x53, 0x5b, 0x63, 0x6b, 0x73, 0x7b}
)

// edges is bytes that may be prefixes, or codes of each form.
var edges = []byte{0x00, 0x01, 0x06, 0x36, 0x43, 0x46, 0x76, 0xc3, 0xcb, 0xdd, 0xed, 0xfd}

// has tells whether a byte is in a row.
func has(row []byte, b byte) bool { return bytes.IndexByte(row, b) >= 0 }

// sized is Size of one of the seven planes, by the rows.
func sized(plane int, code byte) int {
	switch plane {
	case api.Plain, api.DD, api.FD:
		if has(withOne, code) {
			return 1
		}
		if has(withTwo, code) {
			return 2
		}
	case api.ED:
		if has(withTwoED, code) {
			return 2
		}
	}
	return 0
}

// near is Near of one of the seven planes, by the row.
func near(plane int, code byte) bool {
	switch plane {
	case api.DD, api.FD:
		return has(withDisp, code)
	case api.DDCB, api.FDCB:
		return true
	}
	return false
}

// worded is Size and Near of the planes Plain, DD and FD, by the document's words.
func worded(plane int, code int) (int, bool) {
	x, y, z := code/64, code/8%8, code%8
	p, q := y/2, y%2
	size := 0
	switch {
	case x == 0 && z == 6, x == 0 && z == 0 && y >= 2, x == 3 && z == 6, x == 3 && z == 3 && (y == 2 || y == 3):
		size = 1
	case x == 0 && z == 1 && q == 0, x == 0 && z == 2 && y >= 4, x == 3 && z == 2, x == 3 && z == 3 && y == 0, x == 3 && z == 4, x == 3 && z == 5 && q == 1 && p == 0:
		size = 2
	}
	if plane == api.Plain {
		return size, false
	}
	one := y == 6 && z != 6 || y != 6 && z == 6
	return size, x == 1 && one || x == 2 && z == 6 || x == 0 && y == 6 && (z == 4 || z == 5 || z == 6)
}

// led is the prefix bytes of the seven planes.
func led(plane int) []byte {
	return [][]byte{{}, {0xcb}, {0xed}, {0xdd}, {0xfd}, {0xdd, 0xcb}, {0xfd, 0xcb}}[plane]
}

// isPrefix tells whether a code is a prefix where a plane's code is read.
func isPrefix(plane int, code byte) bool {
	return (plane == api.Plain || plane == api.DD || plane == api.FD) && has([]byte{0xcb, 0xdd, 0xed, 0xfd}, code)
}

// written is the bytes of an instruction of one of the seven planes.
func written(o api.Op) []byte {
	b := led(o.Plane)
	switch {
	case o.Plane == api.DDCB || o.Plane == api.FDCB:
		b = append(b, o.Disp, o.Code)
	case near(o.Plane, o.Code):
		b = append(b, o.Code, o.Disp)
	default:
		b = append(b, o.Code)
	}
	if sized(o.Plane, o.Code) >= 1 {
		b = append(b, byte(o.Imm%256))
	}
	if sized(o.Plane, o.Code) == 2 {
		b = append(b, byte(o.Imm/256))
	}
	return b
}

// whole is all instructions there are, with that displacement and that number where they have one.
func whole(disp uint8, imm uint16) []api.Op {
	var l []api.Op
	for _, plane := range planes {
		for code := range 256 {
			if isPrefix(plane, byte(code)) {
				continue
			}
			o := api.Op{Plane: plane, Code: byte(code)}
			if near(plane, o.Code) {
				o.Disp = disp
			}
			switch sized(plane, o.Code) {
			case 1:
				o.Imm = imm % 256
			case 2:
				o.Imm = imm
			}
			o.Len = len(written(o))
			l = append(l, o)
		}
	}
	return l
}

// read is Next, by the places of the parts: first all prefixes are counted, then the form of the instruction tells where its parts lie.
func read(b []byte) (api.Op, bool) {
	many := 0
	for many < len(b) && (b[many] == 0xdd || b[many] == 0xfd) {
		many++
	}
	if many == len(b) {
		return api.Op{}, false
	}
	o := api.Op{Skip: max(many-1, 0)}
	if many > 0 {
		o.Plane = map[byte]int{0xdd: api.DD, 0xfd: api.FD}[b[many-1]]
	}
	codeAt, dispAt := many, -1
	switch b[many] {
	case 0xed:
		o.Plane, o.Skip, codeAt = api.ED, many, many+1
	case 0xcb:
		o.Plane = map[int]int{api.Plain: api.CB, api.DD: api.DDCB, api.FD: api.FDCB}[o.Plane]
		codeAt = many + 1
		if many > 0 {
			dispAt, codeAt = many+1, many+2
		}
	}
	if codeAt >= len(b) {
		return api.Op{}, false
	}
	o.Code = b[codeAt]
	end := codeAt + 1
	if dispAt < 0 && near(o.Plane, o.Code) {
		dispAt, end = end, end+1
	}
	size := sized(o.Plane, o.Code)
	o.Len = end + size
	if o.Len > len(b) {
		return api.Op{}, false
	}
	if dispAt >= 0 {
		o.Disp = b[dispAt]
	}
	for n := size; n > 0; n-- {
		o.Imm = o.Imm*256 + uint16(b[end+n-1])
	}
	return o, true
}

// checkNext fails if Next doesn't answer that instruction, and that it is one.
func checkNext(t *testing.T, b []byte, want api.Op, is bool) {
	t.Helper()
	if o, ok := Next(b); o != want || ok != is {
		t.Fatalf("Next(% x) = %+v, %v, want %+v, %v", b, o, ok, want, is)
	}
}

// checkBytes fails if Bytes doesn't answer those.
func checkBytes(t *testing.T, o api.Op, want []byte) {
	t.Helper()
	if b := Bytes(o); !bytes.Equal(b, want) {
		t.Fatalf("Bytes(%+v) = % x, want % x", o, b, want)
	}
}

// checkAll fails if All doesn't answer those instructions, and that so many bytes are left.
func checkAll(t *testing.T, b []byte, want []api.Op, left int) {
	t.Helper()
	if l, n := All(b); !slices.Equal(l, want) || n != left {
		t.Fatalf("All(% x) = %+v, %d, want %+v, %d", b, l, n, want, left)
	}
}

func TestP8_1FieldsOfAllCodes(t *testing.T) {
	for code := range 256 {
		x, y, z, p, q := Fields(uint8(code))
		if x != code/64 || y != code/8%8 || z != code%8 || p != code/16%4 || q != code/8%2 {
			t.Fatalf("Fields(%#x) = %d, %d, %d, %d, %d", code, x, y, z, p, q)
		}
	}
}

func TestP8_1FieldsAtTheEdges(t *testing.T) {
	for code, want := range map[uint8][5]int{
		0x00: {0, 0, 0, 0, 0},
		0x01: {0, 0, 1, 0, 0},
		0x07: {0, 0, 7, 0, 0},
		0x08: {0, 1, 0, 0, 1},
		0x10: {0, 2, 0, 1, 0},
		0x36: {0, 6, 6, 3, 0},
		0x38: {0, 7, 0, 3, 1},
		0x40: {1, 0, 0, 0, 0},
		0x76: {1, 6, 6, 3, 0},
		0x80: {2, 0, 0, 0, 0},
		0xcb: {3, 1, 3, 0, 1},
		0xcd: {3, 1, 5, 0, 1},
		0xdd: {3, 3, 5, 1, 1},
		0xed: {3, 5, 5, 2, 1},
		0xfd: {3, 7, 5, 3, 1},
		0xff: {3, 7, 7, 3, 1},
	} {
		x, y, z, p, q := Fields(code)
		if got := [5]int{x, y, z, p, q}; got != want {
			t.Errorf("Fields(%#x) = %v, want %v", code, got, want)
		}
	}
}

func TestP8_1SizeAndNearOfAllCodesInAllPlanes(t *testing.T) {
	for _, plane := range planes {
		for code := range 256 {
			if got, want := Size(plane, uint8(code)), sized(plane, byte(code)); got != want {
				t.Errorf("Size(%d, %#x) = %d, want %d", plane, code, got, want)
			}
			if got, want := Near(plane, uint8(code)), near(plane, byte(code)); got != want {
				t.Errorf("Near(%d, %#x) = %v, want %v", plane, code, got, want)
			}
		}
	}
}

func TestP8_1SizeAndNearByTheWords(t *testing.T) {
	for _, plane := range []int{api.Plain, api.DD, api.FD} {
		for code := range 256 {
			size, is := worded(plane, code)
			if got := Size(plane, uint8(code)); got != size {
				t.Errorf("Size(%d, %#x) = %d, want %d", plane, code, got, size)
			}
			if got := Near(plane, uint8(code)); got != is {
				t.Errorf("Near(%d, %#x) = %v, want %v", plane, code, got, is)
			}
		}
	}
}

func TestP8_1NoOtherPlaneHasOperands(t *testing.T) {
	for _, plane := range others {
		for code := range 256 {
			if got := Size(plane, uint8(code)); got != 0 {
				t.Errorf("Size(%d, %#x) = %d", plane, code, got)
			}
			if Near(plane, uint8(code)) {
				t.Errorf("Near(%d, %#x) holds", plane, code)
			}
		}
	}
}

func TestP8_2NextAtTheEdges(t *testing.T) {
	for _, w := range []struct {
		b []byte
		o api.Op
	}{
		// The document's examples.
		{[]byte{0xdd, 0x36, 5, 7}, api.Op{Plane: api.DD, Code: 0x36, Disp: 5, Imm: 7, Len: 4}},
		{[]byte{0xdd, 0xfd, 0x21, 0x34, 0x12}, api.Op{Plane: api.FD, Code: 0x21, Imm: 4660, Len: 5, Skip: 1}},
		// Operands of no byte, of one, and of two.
		{[]byte{0x00}, api.Op{Len: 1}},
		{[]byte{0x76}, api.Op{Code: 0x76, Len: 1}},
		{[]byte{0xff}, api.Op{Code: 0xff, Len: 1}},
		{[]byte{0x06, 0xff}, api.Op{Code: 0x06, Imm: 255, Len: 2}},
		{[]byte{0x10, 0x80}, api.Op{Code: 0x10, Imm: 128, Len: 2}},
		{[]byte{0xd3, 0xfe}, api.Op{Code: 0xd3, Imm: 254, Len: 2}},
		{[]byte{0x01, 0xff, 0x00}, api.Op{Code: 0x01, Imm: 255, Len: 3}},
		{[]byte{0x01, 0x00, 0xff}, api.Op{Code: 0x01, Imm: 0xff00, Len: 3}},
		{[]byte{0xc3, 0x34, 0x12}, api.Op{Code: 0xc3, Imm: 0x1234, Len: 3}},
		{[]byte{0xed, 0x43, 0x34, 0x12}, api.Op{Plane: api.ED, Code: 0x43, Imm: 0x1234, Len: 4}},
		{[]byte{0xed, 0x00}, api.Op{Plane: api.ED, Len: 2}},
		// Operands behind DD and FD.
		{[]byte{0xdd, 0x00}, api.Op{Plane: api.DD, Len: 2}},
		{[]byte{0xdd, 0x36, 0x80, 0xff}, api.Op{Plane: api.DD, Code: 0x36, Disp: 0x80, Imm: 0xff, Len: 4}},
		{[]byte{0xfd, 0x36, 0xff, 0x00}, api.Op{Plane: api.FD, Code: 0x36, Disp: 0xff, Len: 4}},
		{[]byte{0xfd, 0x7e, 0xfe}, api.Op{Plane: api.FD, Code: 0x7e, Disp: 0xfe, Len: 3}},
		{[]byte{0xdd, 0x70, 0x01}, api.Op{Plane: api.DD, Code: 0x70, Disp: 1, Len: 3}},
		{[]byte{0xdd, 0x76}, api.Op{Plane: api.DD, Code: 0x76, Len: 2}},
		{[]byte{0xfd, 0x10, 0x05}, api.Op{Plane: api.FD, Code: 0x10, Imm: 5, Len: 3}},
		{[]byte{0xfd, 0xcd, 0x34, 0x12}, api.Op{Plane: api.FD, Code: 0xcd, Imm: 0x1234, Len: 4}},
		// CB without a prefix, behind one, and behind several.
		{[]byte{0xcb, 0x06}, api.Op{Plane: api.CB, Code: 0x06, Len: 2}},
		{[]byte{0xdd, 0xcb, 0x05, 0xc0}, api.Op{Plane: api.DDCB, Code: 0xc0, Disp: 5, Len: 4}},
		{[]byte{0xfd, 0xcb, 0xfb, 0x46}, api.Op{Plane: api.FDCB, Code: 0x46, Disp: 0xfb, Len: 4}},
		{[]byte{0xdd, 0xfd, 0xcb, 0x05, 0x36}, api.Op{Plane: api.FDCB, Code: 0x36, Disp: 5, Len: 5, Skip: 1}},
		{[]byte{0xfd, 0xfd, 0xdd, 0xcb, 0x05, 0x43}, api.Op{Plane: api.DDCB, Code: 0x43, Disp: 5, Len: 6, Skip: 2}},
		// DD and FD ahead of each other.
		{[]byte{0xdd, 0xdd, 0x23}, api.Op{Plane: api.DD, Code: 0x23, Len: 3, Skip: 1}},
		{[]byte{0xfd, 0xfd, 0x23}, api.Op{Plane: api.FD, Code: 0x23, Len: 3, Skip: 1}},
		{[]byte{0xdd, 0xfd, 0x7e, 0x05}, api.Op{Plane: api.FD, Code: 0x7e, Disp: 5, Len: 4, Skip: 1}},
		{[]byte{0xfd, 0xdd, 0x36, 0x05, 0x07}, api.Op{Plane: api.DD, Code: 0x36, Disp: 5, Imm: 7, Len: 5, Skip: 1}},
		{[]byte{0xfd, 0xdd, 0xfd, 0xdd, 0x3e, 0x07}, api.Op{Plane: api.DD, Code: 0x3e, Imm: 7, Len: 6, Skip: 3}},
		// ED behind DD and FD: they play no part.
		{[]byte{0xdd, 0xed, 0xb0}, api.Op{Plane: api.ED, Code: 0xb0, Len: 3, Skip: 1}},
		{[]byte{0xfd, 0xed, 0x5b, 0x34, 0x12}, api.Op{Plane: api.ED, Code: 0x5b, Imm: 0x1234, Len: 5, Skip: 1}},
		{[]byte{0xdd, 0xfd, 0xdd, 0xed, 0x36}, api.Op{Plane: api.ED, Code: 0x36, Len: 5, Skip: 3}},
	} {
		checkNext(t, w.b, w.o, true)
	}
}

func TestP8_2PrefixesInEachPlaceWhereTheyMayStand(t *testing.T) {
	for _, k := range []byte{0xcb, 0xdd, 0xed, 0xfd} {
		n := uint16(k)
		for _, w := range []struct {
			b []byte
			o api.Op
		}{
			// As codes: behind CB, behind ED, and behind a displacement.
			{[]byte{0xcb, k}, api.Op{Plane: api.CB, Code: k, Len: 2}},
			{[]byte{0xed, k}, api.Op{Plane: api.ED, Code: k, Len: 2}},
			{[]byte{0xdd, 0xcb, 0x05, k}, api.Op{Plane: api.DDCB, Code: k, Disp: 5, Len: 4}},
			{[]byte{0xfd, 0xcb, k, 0x06}, api.Op{Plane: api.FDCB, Code: 0x06, Disp: k, Len: 4}},
			{[]byte{0xfd, 0xcb, k, k}, api.Op{Plane: api.FDCB, Code: k, Disp: k, Len: 4}},
			// As displacements and numbers.
			{[]byte{0xdd, 0x7e, k}, api.Op{Plane: api.DD, Code: 0x7e, Disp: k, Len: 3}},
			{[]byte{0xfd, 0x36, k, k}, api.Op{Plane: api.FD, Code: 0x36, Disp: k, Imm: n, Len: 4}},
			{[]byte{0x3e, k}, api.Op{Code: 0x3e, Imm: n, Len: 2}},
			{[]byte{0x21, k, 0x12}, api.Op{Code: 0x21, Imm: 0x1200 + n, Len: 3}},
			{[]byte{0x21, 0x34, k}, api.Op{Code: 0x21, Imm: 0x34 + 256*n, Len: 3}},
			{[]byte{0xed, 0x7b, k, k}, api.Op{Plane: api.ED, Code: 0x7b, Imm: 257 * n, Len: 4}},
		} {
			checkNext(t, w.b, w.o, true)
		}
	}
}

func TestP8_2EachInstructionAndEachPlaceWhereItIsCut(t *testing.T) {
	for _, o := range whole(0xfd, 0xcbed) {
		b := written(o)
		checkNext(t, b, o, true)
		for n := range b {
			checkNext(t, b[:n], api.Op{}, false) // what is cut off lies in the unused capacity
			checkNext(t, slices.Clone(b[:n]), api.Op{}, false)
		}
	}
}

func TestP8_2NoBytesAndPrefixesAlone(t *testing.T) {
	checkNext(t, nil, api.Op{}, false)
	checkNext(t, []byte{}, api.Op{}, false)
	checkNext(t, []byte{0xcb}, api.Op{}, false)
	checkNext(t, []byte{0xed}, api.Op{}, false)
	for _, run := range [][]byte{{0xdd}, {0xfd}, {0xdd, 0xfd}, {0xfd, 0xdd}, {0xdd, 0xdd, 0xfd}} {
		for _, many := range []int{1, 2, 3, 100, 20000} {
			b := bytes.Repeat(run, many)
			checkNext(t, b, api.Op{}, false)
			checkNext(t, append(b, 0xed), api.Op{}, false)
			checkNext(t, append(b, 0xcb), api.Op{}, false)
			checkNext(t, append(b, 0xcb, 0x05), api.Op{}, false)
			checkNext(t, append(b, 0x36, 0x05), api.Op{}, false)
			checkNext(t, append(b, 0x21, 0x34), api.Op{}, false)
		}
	}
}

func TestP8_2ManyIgnoredPrefixes(t *testing.T) {
	for many := range 300 {
		b := bytes.Repeat([]byte{0xfd, 0xdd, 0xdd}, 100)[:many]
		for _, o := range []api.Op{
			{Plane: api.DD, Code: 0x36, Disp: 5, Imm: 7, Len: 4},
			{Plane: api.FD, Code: 0x21, Imm: 0x1234, Len: 4},
			{Plane: api.ED, Code: 0x43, Imm: 0x1234, Len: 4},
			{Plane: api.DDCB, Code: 0xc0, Disp: 5, Len: 4},
			{Plane: api.FDCB, Code: 0xdd, Disp: 5, Len: 4},
		} {
			long := append(slices.Clone(b), written(o)...)
			o.Len += many
			o.Skip = many
			checkNext(t, long, o, true)
		}
	}
}

func TestP8_2AllPairsOfBytes(t *testing.T) {
	for first := range 256 {
		for second := range 256 {
			for _, b := range [][]byte{{byte(first), byte(second)}, {byte(first), byte(second), 0x05, 0xdd, 0x43}} {
				want, is := read(b)
				checkNext(t, b, want, is)
			}
		}
	}
}

func TestP8_2AllRowsOfEdgeBytes(t *testing.T) {
	for size := range 6 {
		rows := 1
		for range size {
			rows *= len(edges)
		}
		b := make([]byte, size)
		for row := range rows {
			rest := row
			for n := range b {
				b[n] = edges[rest%len(edges)]
				rest /= len(edges)
			}
			want, is := read(b)
			checkNext(t, b, want, is)
		}
	}
}

func TestP8_3BytesAtTheEdges(t *testing.T) {
	for _, w := range []struct {
		o api.Op
		b []byte
	}{
		// One of each plane, and with each kind of operands.
		{api.Op{}, []byte{0x00}},
		{api.Op{Code: 0x3e, Imm: 0x12}, []byte{0x3e, 0x12}},
		{api.Op{Code: 0xcd, Imm: 0x1234}, []byte{0xcd, 0x34, 0x12}},
		{api.Op{Plane: api.CB, Code: 0x46}, []byte{0xcb, 0x46}},
		{api.Op{Plane: api.ED, Code: 0xb0}, []byte{0xed, 0xb0}},
		{api.Op{Plane: api.ED, Code: 0x4b, Imm: 0x1234}, []byte{0xed, 0x4b, 0x34, 0x12}},
		{api.Op{Plane: api.DD, Code: 0x21, Imm: 0x1234}, []byte{0xdd, 0x21, 0x34, 0x12}},
		{api.Op{Plane: api.DD, Code: 0x36, Disp: 5, Imm: 7}, []byte{0xdd, 0x36, 0x05, 0x07}},
		{api.Op{Plane: api.FD, Code: 0x7e, Disp: 0xff}, []byte{0xfd, 0x7e, 0xff}},
		{api.Op{Plane: api.DDCB, Code: 0xc0, Disp: 5}, []byte{0xdd, 0xcb, 0x05, 0xc0}},
		{api.Op{Plane: api.FDCB, Code: 0x46, Disp: 0xfb}, []byte{0xfd, 0xcb, 0xfb, 0x46}},
		// A displacement and a number that the instruction has not.
		{api.Op{Code: 0x7e, Disp: 5, Imm: 0x1234}, []byte{0x7e}},
		{api.Op{Code: 0x36, Disp: 5, Imm: 7}, []byte{0x36, 0x07}},
		{api.Op{Plane: api.CB, Code: 0x36, Disp: 5, Imm: 7}, []byte{0xcb, 0x36}},
		{api.Op{Plane: api.ED, Code: 0x36, Disp: 5, Imm: 7}, []byte{0xed, 0x36}},
		{api.Op{Plane: api.DD, Code: 0x76, Disp: 5, Imm: 7}, []byte{0xdd, 0x76}},
		{api.Op{Plane: api.FDCB, Code: 0x36, Disp: 5, Imm: 7}, []byte{0xfd, 0xcb, 0x05, 0x36}},
		// A number beyond 255 where the operand has one byte.
		{api.Op{Code: 0x3e, Imm: 0x1234}, []byte{0x3e, 0x34}},
		{api.Op{Code: 0x18, Imm: 256}, []byte{0x18, 0x00}},
		{api.Op{Code: 0x18, Imm: 0xffff}, []byte{0x18, 0xff}},
		{api.Op{Plane: api.DD, Code: 0x36, Disp: 5, Imm: 0xff07}, []byte{0xdd, 0x36, 0x05, 0x07}},
		// Codes that Next would take as prefixes.
		{api.Op{Code: 0xdd}, []byte{0xdd}},
		{api.Op{Code: 0xcb, Disp: 5, Imm: 7}, []byte{0xcb}},
		{api.Op{Plane: api.DD, Code: 0xcb, Disp: 5}, []byte{0xdd, 0xcb}},
		{api.Op{Plane: api.FD, Code: 0xed, Imm: 7}, []byte{0xfd, 0xed}},
		{api.Op{Plane: api.ED, Code: 0xfd}, []byte{0xed, 0xfd}},
	} {
		checkBytes(t, w.o, w.b)
	}
}

func TestP8_3BytesOfAllCodesInAllPlanes(t *testing.T) {
	for _, plane := range planes {
		for code := range 256 {
			for _, extra := range []int{0, 1, 7, -1, 300, math.MinInt, math.MaxInt} {
				for _, imm := range []uint16{0, 1, 255, 256, 0x1234, 0xcbed, 0xffff} {
					o := api.Op{Plane: plane, Code: byte(code), Disp: byte(code + 1), Imm: imm, Len: extra, Skip: extra}
					checkBytes(t, o, written(o))
				}
			}
		}
	}
}

func TestP8_3NoBytesOfOtherPlanes(t *testing.T) {
	for _, plane := range others {
		for code := range 256 {
			if b := Bytes(api.Op{Plane: plane, Code: byte(code), Disp: 5, Imm: 0x1234, Len: 4}); b != nil {
				t.Fatalf("Bytes of plane %d = % x", plane, b)
			}
		}
	}
}

func TestP8_3AllAtTheEdges(t *testing.T) {
	ld := api.Op{Code: 0x3e, Imm: 7, Len: 2}
	halt := api.Op{Code: 0x76, Len: 1}
	for _, w := range []struct {
		b    []byte
		l    []api.Op
		left int
	}{
		{nil, nil, 0},
		{[]byte{}, nil, 0},
		{[]byte{0x76}, []api.Op{halt}, 0},
		{[]byte{0x3e, 0x07, 0x76}, []api.Op{ld, halt}, 0},
		// An instruction that is cut ends it, though one could be read behind its first byte.
		{[]byte{0x3e}, nil, 1},
		{[]byte{0x21, 0x76}, nil, 2},
		{[]byte{0x76, 0x3e, 0x07, 0xcd, 0x76}, []api.Op{halt, ld}, 2},
		{[]byte{0x76, 0xdd, 0x36, 0x76}, []api.Op{halt}, 3},
		{[]byte{0x76, 0xfd, 0xcb, 0x76}, []api.Op{halt}, 3},
		// Prefixes with nothing behind them.
		{[]byte{0xdd}, nil, 1},
		{[]byte{0x76, 0xdd, 0xfd, 0xdd}, []api.Op{halt}, 3},
		{[]byte{0x76, 0xdd, 0xfd, 0xed}, []api.Op{halt}, 3},
		// Ignored prefixes belong to the instruction behind them.
		{[]byte{0xdd, 0xed, 0xb0, 0xfd, 0xdd, 0x76}, []api.Op{
			{Plane: api.ED, Code: 0xb0, Len: 3, Skip: 1},
			{Plane: api.DD, Code: 0x76, Len: 3, Skip: 1},
		}, 0},
	} {
		checkAll(t, w.b, w.l, w.left)
	}
}

func TestP8_3AllOfHundredsOfBytes(t *testing.T) {
	all := whole(0x76, 0xdd3e)
	var b []byte
	for n, o := range all {
		b = append(b, written(o)...)
		if n%100 != 99 {
			continue
		}
		checkAll(t, b, all[:n+1], 0)
		checkAll(t, append(slices.Clone(b), 0xdd, 0xcb, 0x05), all[:n+1], 3)
	}
	checkAll(t, b, all, 0)
}

func TestP8_3AllOfAnyBytes(t *testing.T) {
	// A row that goes through all bytes again and again, by steps that share no divisor with 256.
	for step := 1; step < 256; step += 2 {
		b := make([]byte, 700)
		for n := range b {
			b[n] = byte(n*step + n/256)
		}
		var want []api.Op
		rest := b
		for o, is := read(rest); is; o, is = read(rest) {
			want = append(want, o)
			rest = rest[o.Len:]
		}
		checkAll(t, b, want, len(rest))
	}
}

func TestP8_4NextOfBytesIsTheInstruction(t *testing.T) {
	for _, disp := range []uint8{0, 1, 0x7f, 0x80, 0xcb, 0xdd, 0xff} {
		for _, imm := range []uint16{0, 1, 255, 256, 0x1234, 0xddfd, 0xffff} {
			for _, o := range whole(disp, imm) {
				checkNext(t, Bytes(o), o, true)
			}
		}
	}
}

func TestP8_4IgnoredPrefixesAreLeftOut(t *testing.T) {
	for _, o := range whole(0x05, 0x1234) {
		// Ahead of the planes Plain and CB, DD and FD would not be ignored.
		if o.Plane == api.Plain || o.Plane == api.CB {
			continue
		}
		long, ok := Next(append([]byte{0xfd, 0xdd}, written(o)...))
		if !ok || long.Skip != 2 || long.Len != o.Len+2 {
			t.Fatalf("two prefixes ahead of %+v: %+v, %v", o, long, ok)
		}
		checkNext(t, Bytes(long), o, true)
	}
}

func TestP8_4BytesBehindPlayNoPart(t *testing.T) {
	for _, o := range whole(0xfb, 0xed36) {
		b := written(o)
		for _, behind := range [][]byte{{0x00}, {0xff}, {0xcb}, {0xdd}, {0xed}, {0xfd}, {0xdd, 0xcb, 0x05, 0xc0}, {0x34, 0x12, 0x76, 0xdd}} {
			checkNext(t, append(slices.Clone(b), behind...), o, true)
		}
	}
}

func TestNoArgumentIsChanged(t *testing.T) {
	for _, o := range whole(0x05, 0x1234) {
		b := append(written(o), 0xaa, 0xbb, 0xcc, 0xdd, 0xee)
		was := slices.Clone(b)
		for n := range len(b) + 1 {
			Next(b[:n])
			All(b[:n])
		}
		if !bytes.Equal(b, was) {
			t.Fatalf("% x became % x", was, b)
		}
	}
}

func TestResultsAreInNewMemory(t *testing.T) {
	for _, o := range whole(0x05, 0x1234) {
		b := Bytes(o)
		for n := range b[:cap(b)] {
			b[:cap(b)][n] = 0xaa
		}
		checkBytes(t, o, written(o))
		bytesOf := written(o)
		one, _ := All(bytesOf)
		other, _ := All(bytesOf)
		clear(one[:cap(one)])
		if !slices.Equal(other, []api.Op{o}) || !bytes.Equal(bytesOf, written(o)) {
			t.Fatalf("All of % x became %+v", written(o), other)
		}
	}
}
