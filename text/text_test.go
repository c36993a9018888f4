package text

import (
	"bytes"
	"fmt"
	"math"
	"regexp"
	"slices"
	"strings"
	"testing"

	"charabanc/api"
	"charabanc/decode"
)

// planes is the seven planes.
var planes = []int{api.Plain, api.CB, api.ED, api.DD, api.FD, api.DDCB, api.FDCB}

// others is numbers that are no planes, among them ones that are planes modulo 8, 256 and 2^32.
var others = []int{
	-1, -2, -4, -5, -7, -8, -253, -256, math.MinInt32, math.MinInt, math.MinInt + 1, math.MinInt + 3,
	7, 8, 11, 13, 14, 15, 16, 255, 256, 259, 261, 1<<32 + 3, 1<<32 + 5, math.MaxInt32, math.MaxInt - 1, math.MaxInt,
}

// The texts of the codes 0 to 255, a row for each 16 of them: {n}, {nn}, {t} and {i} stand for the operands.
var (
	plain = [16]string{
		"nop|ld bc,{nn}|ld (bc),a|inc bc|inc b|dec b|ld b,{n}|rlca|ex af,af'|add hl,bc|ld a,(bc)|dec bc|inc c|dec c|ld c,{n}|rrca",
		"djnz {t}|ld de,{nn}|ld (de),a|inc de|inc d|dec d|ld d,{n}|rla|jr {t}|add hl,de|ld a,(de)|dec de|inc e|dec e|ld e,{n}|rra",
		"jr nz,{t}|ld hl,{nn}|ld ({nn}),hl|inc hl|inc h|dec h|ld h,{n}|daa|jr z,{t}|add hl,hl|ld hl,({nn})|dec hl|inc l|dec l|ld l,{n}|cpl",
		"jr nc,{t}|ld sp,{nn}|ld ({nn}),a|inc sp|inc (hl)|dec (hl)|ld (hl),{n}|scf|jr c,{t}|add hl,sp|ld a,({nn})|dec sp|inc a|dec a|ld a,{n}|ccf",
		"ld b,b|ld b,c|ld b,d|ld b,e|ld b,h|ld b,l|ld b,(hl)|ld b,a|ld c,b|ld c,c|ld c,d|ld c,e|ld c,h|ld c,l|ld c,(hl)|ld c,a",
		"ld d,b|ld d,c|ld d,d|ld d,e|ld d,h|ld d,l|ld d,(hl)|ld d,a|ld e,b|ld e,c|ld e,d|ld e,e|ld e,h|ld e,l|ld e,(hl)|ld e,a",
		"ld h,b|ld h,c|ld h,d|ld h,e|ld h,h|ld h,l|ld h,(hl)|ld h,a|ld l,b|ld l,c|ld l,d|ld l,e|ld l,h|ld l,l|ld l,(hl)|ld l,a",
		"ld (hl),b|ld (hl),c|ld (hl),d|ld (hl),e|ld (hl),h|ld (hl),l|halt|ld (hl),a|ld a,b|ld a,c|ld a,d|ld a,e|ld a,h|ld a,l|ld a,(hl)|ld a,a",
		"add a,b|add a,c|add a,d|add a,e|add a,h|add a,l|add a,(hl)|add a,a|adc a,b|adc a,c|adc a,d|adc a,e|adc a,h|adc a,l|adc a,(hl)|adc a,a",
		"sub b|sub c|sub d|sub e|sub h|sub l|sub (hl)|sub a|sbc a,b|sbc a,c|sbc a,d|sbc a,e|sbc a,h|sbc a,l|sbc a,(hl)|sbc a,a",
		"and b|and c|and d|and e|and h|and l|and (hl)|and a|xor b|xor c|xor d|xor e|xor h|xor l|xor (hl)|xor a",
		"or b|or c|or d|or e|or h|or l|or (hl)|or a|cp b|cp c|cp d|cp e|cp h|cp l|cp (hl)|cp a",
		"ret nz|pop bc|jp nz,{nn}|jp {nn}|call nz,{nn}|push bc|add a,{n}|rst 00h|ret z|ret|jp z,{nn}|prefix|call z,{nn}|call {nn}|adc a,{n}|rst 08h",
		"ret nc|pop de|jp nc,{nn}|out ({n}),a|call nc,{nn}|push de|sub {n}|rst 10h|ret c|exx|jp c,{nn}|in a,({n})|call c,{nn}|prefix|sbc a,{n}|rst 18h",
		"ret po|pop hl|jp po,{nn}|ex (sp),hl|call po,{nn}|push hl|and {n}|rst 20h|ret pe|jp (hl)|jp pe,{nn}|ex de,hl|call pe,{nn}|prefix|xor {n}|rst 28h",
		"ret p|pop af|jp p,{nn}|di|call p,{nn}|push af|or {n}|rst 30h|ret m|ld sp,hl|jp m,{nn}|ei|call m,{nn}|prefix|cp {n}|rst 38h",
	}

	indexed = [16]string{
		"nop|ld bc,{nn}|ld (bc),a|inc bc|inc b|dec b|ld b,{n}|rlca|ex af,af'|add ix,bc|ld a,(bc)|dec bc|inc c|dec c|ld c,{n}|rrca",
		"djnz {t}|ld de,{nn}|ld (de),a|inc de|inc d|dec d|ld d,{n}|rla|jr {t}|add ix,de|ld a,(de)|dec de|inc e|dec e|ld e,{n}|rra",
		"jr nz,{t}|ld ix,{nn}|ld ({nn}),ix|inc ix|inc ixh|dec ixh|ld ixh,{n}|daa|jr z,{t}|add ix,ix|ld ix,({nn})|dec ix|inc ixl|dec ixl|ld ixl,{n}|cpl",
		"jr nc,{t}|ld sp,{nn}|ld ({nn}),a|inc sp|inc {i}|dec {i}|ld {i},{n}|scf|jr c,{t}|add ix,sp|ld a,({nn})|dec sp|inc a|dec a|ld a,{n}|ccf",
		"ld b,b|ld b,c|ld b,d|ld b,e|ld b,ixh|ld b,ixl|ld b,{i}|ld b,a|ld c,b|ld c,c|ld c,d|ld c,e|ld c,ixh|ld c,ixl|ld c,{i}|ld c,a",
		"ld d,b|ld d,c|ld d,d|ld d,e|ld d,ixh|ld d,ixl|ld d,{i}|ld d,a|ld e,b|ld e,c|ld e,d|ld e,e|ld e,ixh|ld e,ixl|ld e,{i}|ld e,a",
		"ld ixh,b|ld ixh,c|ld ixh,d|ld ixh,e|ld ixh,ixh|ld ixh,ixl|ld h,{i}|ld ixh,a|ld ixl,b|ld ixl,c|ld ixl,d|ld ixl,e|ld ixl,ixh|ld ixl,ixl|ld l,{i}|ld ixl,a",
		"ld {i},b|ld {i},c|ld {i},d|ld {i},e|ld {i},h|ld {i},l|halt|ld {i},a|ld a,b|ld a,c|ld a,d|ld a,e|ld a,ixh|ld a,ixl|ld a,{i}|ld a,a",
		"add a,b|add a,c|add a,d|add a,e|add a,ixh|add a,ixl|add a,{i}|add a,a|adc a,b|adc a,c|adc a,d|adc a,e|adc a,ixh|adc a,ixl|adc a,{i}|adc a,a",
		"sub b|sub c|sub d|sub e|sub ixh|sub ixl|sub {i}|sub a|sbc a,b|sbc a,c|sbc a,d|sbc a,e|sbc a,ixh|sbc a,ixl|sbc a,{i}|sbc a,a",
		"and b|and c|and d|and e|and ixh|and ixl|and {i}|and a|xor b|xor c|xor d|xor e|xor ixh|xor ixl|xor {i}|xor a",
		"or b|or c|or d|or e|or ixh|or ixl|or {i}|or a|cp b|cp c|cp d|cp e|cp ixh|cp ixl|cp {i}|cp a",
		"ret nz|pop bc|jp nz,{nn}|jp {nn}|call nz,{nn}|push bc|add a,{n}|rst 00h|ret z|ret|jp z,{nn}|prefix|call z,{nn}|call {nn}|adc a,{n}|rst 08h",
		"ret nc|pop de|jp nc,{nn}|out ({n}),a|call nc,{nn}|push de|sub {n}|rst 10h|ret c|exx|jp c,{nn}|in a,({n})|call c,{nn}|prefix|sbc a,{n}|rst 18h",
		"ret po|pop ix|jp po,{nn}|ex (sp),ix|call po,{nn}|push ix|and {n}|rst 20h|ret pe|jp (ix)|jp pe,{nn}|ex de,hl|call pe,{nn}|prefix|xor {n}|rst 28h",
		"ret p|pop af|jp p,{nn}|di|call p,{nn}|push af|or {n}|rst 30h|ret m|ld sp,ix|jp m,{nn}|ei|call m,{nn}|prefix|cp {n}|rst 38h",
	}

	// The codes 40 to 7f of the plane ED (hexadecimal).
	single = [4]string{
		"in b,(c)|out (c),b|sbc hl,bc|ld ({nn}),bc|neg|retn|im 0|ld i,a|in c,(c)|out (c),c|adc hl,bc|ld bc,({nn})|neg|reti|im 0|ld r,a",
		"in d,(c)|out (c),d|sbc hl,de|ld ({nn}),de|neg|retn|im 1|ld a,i|in e,(c)|out (c),e|adc hl,de|ld de,({nn})|neg|retn|im 2|ld a,r",
		"in h,(c)|out (c),h|sbc hl,hl|ld ({nn}),hl|neg|retn|im 0|rrd|in l,(c)|out (c),l|adc hl,hl|ld hl,({nn})|neg|retn|im 0|rld",
		"in f,(c)|out (c),0|sbc hl,sp|ld ({nn}),sp|neg|retn|im 1|nop*|in a,(c)|out (c),a|adc hl,sp|ld sp,({nn})|neg|retn|im 2|nop*",
	}
	// The codes a0 to bf of the plane ED.
	repeated = [2]string{
		"ldi|cpi|ini|outi|nop*|nop*|nop*|nop*|ldd|cpd|ind|outd|nop*|nop*|nop*|nop*",
		"ldir|cpir|inir|otir|nop*|nop*|nop*|nop*|lddr|cpdr|indr|otdr|nop*|nop*|nop*|nop*",
	}
)

// named is the name of IX where it begins a word: prefix ends with one, too.
var named = regexp.MustCompile(`\bix`)

// pattern is the text of a code in one of the seven planes, with its operands' marks.
func pattern(plane, code int) string {
	row, column := code/16, code%16
	switch plane {
	case api.Plain:
		return strings.Split(plain[row], "|")[column]
	case api.DD:
		return strings.Split(indexed[row], "|")[column]
	case api.FD:
		return named.ReplaceAllString(pattern(api.DD, code), "iy")
	case api.ED:
		switch {
		case row >= 4 && row <= 7:
			return strings.Split(single[row-4], "|")[column]
		case row == 10 || row == 11:
			return strings.Split(repeated[row-10], "|")[column]
		}
		return "nop*"
	}
	register := strings.Fields("b c d e h l (hl) a")[code%8]
	if plane != api.CB {
		register = strings.TrimSuffix("{i},"+register, ",(hl)")
		if code/64 == 1 {
			register = "{i}"
		}
	}
	if code < 64 {
		return strings.Fields("rlc rrc rl rr sla sra sll srl")[code/8] + " " + register
	}
	return fmt.Sprintf("%s %d,%s", strings.Fields("bit res set")[code/64-1], code/8%8, register)
}

// expand is a pattern with an instruction's operands.
func expand(pattern string, o api.Op) string {
	name := "iy"
	if o.Plane == api.DD || o.Plane == api.DDCB {
		name = "ix"
	}
	return strings.NewReplacer(
		"{n}", fmt.Sprintf("%02xh", o.Imm%256),
		"{nn}", fmt.Sprintf("%04xh", o.Imm),
		"{t}", fmt.Sprintf("$%+d", int(int8(o.Imm))+2),
		"{i}", fmt.Sprintf("(%s%+d)", name, int8(o.Disp)),
	).Replace(pattern)
}

// isPrefix tells whether a code of the plane Plain is a prefix.
func isPrefix(code int) bool { return code == 0xcb || code == 0xdd || code == 0xed || code == 0xfd }

// checkShow fails if Show doesn't answer that text.
func checkShow(t *testing.T, o api.Op, want string) {
	t.Helper()
	if got := Show(o); got != want {
		t.Fatalf("Show(%+v) = %q, want %q", o, got, want)
	}
}

// checkHex fails if Hex doesn't answer that text.
func checkHex(t *testing.T, n, digits int, want string) {
	t.Helper()
	if got := Hex(n, digits); got != want {
		t.Fatalf("Hex(%d, %d) = %q, want %q", n, digits, got, want)
	}
}

// checkAll fails if All doesn't answer those texts.
func checkAll(t *testing.T, b []byte, want []string) {
	t.Helper()
	if got := All(b); !slices.Equal(got, want) {
		t.Fatalf("All(% x) = %q, want %q", b, got, want)
	}
}

func TestP9_1HexAtTheEdges(t *testing.T) {
	for _, w := range []struct {
		n, digits int
		want      string
	}{
		{0, 2, "00h"}, {7, 2, "07h"}, {255, 2, "ffh"}, {0x1234, 4, "1234h"}, {0xabcdef, 6, "abcdefh"}, {9, 1, "9h"}, {10, 1, "ah"}, {15, 1, "fh"}, {16, 1, "10h"},
		// No digits, and fewer than none.
		{0, 0, "0h"}, {1, 0, "1h"}, {0, -1, "0h"}, {0x1234, -3, "1234h"}, {-1, -1, "-1h"},
		{0, math.MinInt, "0h"}, {1, math.MinInt, "1h"}, {math.MaxInt, math.MinInt, "7fffffffffffffffh"}, {0x10, math.MinInt + 1, "10h"}, {0x10, math.MinInt32, "10h"},
		// Eight digits, and more.
		{0, 8, "00000000h"}, {1, 9, "00000001h"}, {1, 16, "00000001h"}, {0, math.MaxInt, "00000000h"}, {-1, math.MaxInt, "-00000001h"}, {1, math.MaxInt32, "00000001h"},
		// More digits than asked for.
		{0x100, 2, "100h"}, {0x12345, 4, "12345h"}, {0x123456789, 8, "123456789h"}, {0x123456789, 99, "123456789h"}, {16, 0, "10h"},
		// Below 0.
		{-1, 0, "-1h"}, {-1, 1, "-1h"}, {-1, 2, "-01h"}, {-15, 2, "-0fh"}, {-16, 1, "-10h"}, {-128, 2, "-80h"}, {-256, 2, "-100h"}, {-0x1234, 4, "-1234h"},
		// The ends of int.
		{math.MaxInt, 0, "7fffffffffffffffh"}, {math.MaxInt, 8, "7fffffffffffffffh"},
		{math.MinInt, 0, "-8000000000000000h"}, {math.MinInt, 8, "-8000000000000000h"}, {math.MinInt + 1, 2, "-7fffffffffffffffh"},
		{math.MaxInt32, 8, "7fffffffh"}, {math.MinInt32, 8, "-80000000h"}, {1 << 32, 8, "100000000h"},
	} {
		checkHex(t, w.n, w.digits, w.want)
	}
}

func TestP9_1HexOfManyNumbers(t *testing.T) {
	for n := range 0x2000 {
		for digits := -2; digits <= 10; digits++ {
			text := fmt.Sprintf("%0*xh", min(max(digits, 1), 8), n*n)
			checkHex(t, n*n, digits, text)
			if n > 0 {
				checkHex(t, -n*n, digits, "-"+text)
			}
		}
	}
}

func TestP9_1IndexAtTheEdges(t *testing.T) {
	for _, w := range []struct {
		disp uint8
		want string
	}{{0, "+0)"}, {1, "+1)"}, {9, "+9)"}, {10, "+10)"}, {127, "+127)"}, {128, "-128)"}, {129, "-127)"}, {254, "-2)"}, {255, "-1)"}} {
		for _, plane := range slices.Concat(planes, others) {
			want := "(iy" + w.want
			if plane == 3 || plane == 5 {
				want = "(ix" + w.want
			}
			if got := Index(plane, w.disp); got != want {
				t.Errorf("Index(%d, %d) = %q, want %q", plane, w.disp, got, want)
			}
		}
	}
}

func TestP9_1IndexOfAllDisplacements(t *testing.T) {
	for disp := range 256 {
		if got, want := Index(api.DDCB, uint8(disp)), fmt.Sprintf("(ix%+d)", (disp+128)%256-128); got != want {
			t.Errorf("Index(DDCB, %d) = %q, want %q", disp, got, want)
		}
	}
}

// checkPlane fails if a code's text in that plane isn't its pattern's, whatever its operands are.
func checkPlane(t *testing.T, plane int) {
	t.Helper()
	for code := range 256 {
		for _, disp := range []uint8{0, 1, 5, 127, 128, 255} {
			for _, imm := range []uint16{0, 1, 7, 127, 128, 254, 255, 256, 0x1234, 0xff80, 65535} {
				o := api.Op{Plane: plane, Code: uint8(code), Disp: disp, Imm: imm}
				checkShow(t, o, expand(pattern(plane, code), o))
			}
		}
	}
}

func TestP9_2AllCodesOfPlain(t *testing.T) { checkPlane(t, api.Plain) }
func TestP9_2AllCodesOfDD(t *testing.T)    { checkPlane(t, api.DD) }
func TestP9_2AllCodesOfFD(t *testing.T)    { checkPlane(t, api.FD) }
func TestP9_3AllCodesOfCB(t *testing.T)    { checkPlane(t, api.CB) }
func TestP9_3AllCodesOfED(t *testing.T)    { checkPlane(t, api.ED) }
func TestP9_3AllCodesOfDDCB(t *testing.T)  { checkPlane(t, api.DDCB) }
func TestP9_3AllCodesOfFDCB(t *testing.T)  { checkPlane(t, api.FDCB) }

func TestP9_2PlainByTheWords(t *testing.T) {
	r := strings.Fields("b c d e h l (hl) a")
	conditions := strings.Fields("nz z nc c po pe p m")
	arithmetic := strings.Split("add a,|adc a,|sub |sbc a,|and |xor |or |cp ", "|")
	rp, rp2 := strings.Fields("bc de hl sp"), strings.Fields("bc de hl af")
	for code := range 256 {
		x, y, z := code/64, code/8%8, code%8
		p, q := y/2, y%2
		want := ""
		switch {
		case x == 0 && z == 0 && y >= 4:
			want = "jr " + conditions[y-4] + ",{t}"
		case x == 0 && z == 1:
			want = []string{"ld " + rp[p] + ",{nn}", "add hl," + rp[p]}[q]
		case x == 0 && z == 3:
			want = []string{"inc ", "dec "}[q] + rp[p]
		case x == 0 && (z == 4 || z == 5):
			want = []string{"inc ", "dec "}[z-4] + r[y]
		case x == 0 && z == 6:
			want = "ld " + r[y] + ",{n}"
		case x == 1 && (y != 6 || z != 6):
			want = "ld " + r[y] + "," + r[z]
		case x == 2:
			want = arithmetic[y] + r[z]
		case x == 3 && z == 0:
			want = "ret " + conditions[y]
		case x == 3 && z == 1 && q == 0:
			want = "pop " + rp2[p]
		case x == 3 && z == 2:
			want = "jp " + conditions[y] + ",{nn}"
		case x == 3 && z == 4:
			want = "call " + conditions[y] + ",{nn}"
		case x == 3 && z == 5 && q == 0:
			want = "push " + rp2[p]
		case x == 3 && z == 6:
			want = arithmetic[y] + "{n}"
		case x == 3 && z == 7:
			want = fmt.Sprintf("rst %02xh", 8*y)
		default:
			continue // a text of its own, which the rows above hold
		}
		o := api.Op{Code: uint8(code), Disp: 5, Imm: 0x12fd}
		checkShow(t, o, expand(want, o))
	}
}

func TestP9_2DDAndFDByTheWords(t *testing.T) {
	names := regexp.MustCompile(`\(hl\)|\bhl\b|\bh\b|\bl\b`)
	for plane, index := range map[int]string{api.DD: "ix", api.FD: "iy"} {
		for code := range 256 {
			near := decode.Near(plane, uint8(code))
			want := names.ReplaceAllStringFunc(pattern(api.Plain, code), func(name string) string {
				switch {
				case name == "(hl)" && code == 0xe9:
					return "(" + index + ")"
				case name == "(hl)":
					return "{i}"
				case name == "hl" && code == 0xeb:
					return name
				case name == "hl":
					return index
				case near:
					return name
				}
				return index + name
			})
			o := api.Op{Plane: plane, Code: uint8(code), Disp: 0x85, Imm: 0xfe}
			checkShow(t, o, expand(want, o))
		}
	}
}

func TestP9_2ExceptionsInDDAndFD(t *testing.T) {
	for _, w := range []struct {
		code   uint8
		dd, fd string
	}{
		// Beside a displacement h and l are not replaced.
		{0x66, "ld h,(ix+5)", "ld h,(iy+5)"}, {0x6e, "ld l,(ix+5)", "ld l,(iy+5)"},
		{0x74, "ld (ix+5),h", "ld (iy+5),h"}, {0x75, "ld (ix+5),l", "ld (iy+5),l"},
		// Without one they are, both of them.
		{0x24, "inc ixh", "inc iyh"}, {0x2d, "dec ixl", "dec iyl"}, {0x26, "ld ixh,07h", "ld iyh,07h"}, {0x2e, "ld ixl,07h", "ld iyl,07h"},
		{0x60, "ld ixh,b", "ld iyh,b"}, {0x7d, "ld a,ixl", "ld a,iyl"}, {0x65, "ld ixh,ixl", "ld iyh,iyl"}, {0x64, "ld ixh,ixh", "ld iyh,iyh"}, {0x6d, "ld ixl,ixl", "ld iyl,iyl"},
		{0x84, "add a,ixh", "add a,iyh"}, {0xbd, "cp ixl", "cp iyl"},
		// Those that are changed in no plane, or otherwise.
		{0xeb, "ex de,hl", "ex de,hl"}, {0xe9, "jp (ix)", "jp (iy)"}, {0x76, "halt", "halt"},
		// The other uses of hl and (hl).
		{0x29, "add ix,ix", "add iy,iy"}, {0x39, "add ix,sp", "add iy,sp"}, {0x22, "ld (0007h),ix", "ld (0007h),iy"}, {0x2a, "ld ix,(0007h)", "ld iy,(0007h)"},
		{0x21, "ld ix,0007h", "ld iy,0007h"}, {0x23, "inc ix", "inc iy"}, {0xe1, "pop ix", "pop iy"}, {0xe5, "push ix", "push iy"}, {0xe3, "ex (sp),ix", "ex (sp),iy"}, {0xf9, "ld sp,ix", "ld sp,iy"},
		{0x34, "inc (ix+5)", "inc (iy+5)"}, {0x36, "ld (ix+5),07h", "ld (iy+5),07h"}, {0x7e, "ld a,(ix+5)", "ld a,(iy+5)"}, {0x96, "sub (ix+5)", "sub (iy+5)"},
		// Names that are none of them, and prefixes.
		{0x00, "nop", "nop"}, {0xd9, "exx", "exx"}, {0xf1, "pop af", "pop af"}, {0xcb, "prefix", "prefix"}, {0xdd, "prefix", "prefix"}, {0xed, "prefix", "prefix"}, {0xfd, "prefix", "prefix"},
	} {
		checkShow(t, api.Op{Plane: api.DD, Code: w.code, Disp: 5, Imm: 7}, w.dd)
		checkShow(t, api.Op{Plane: api.FD, Code: w.code, Disp: 5, Imm: 7}, w.fd)
	}
}

func TestP9_2Targets(t *testing.T) {
	for _, w := range []struct {
		imm  uint16
		want string
	}{
		{0, "$+2"}, {1, "$+3"}, {127, "$+129"}, {128, "$-126"}, {129, "$-125"}, {253, "$-1"}, {254, "$+0"}, {255, "$+1"},
		// Of a number beyond 255 the low byte counts.
		{256, "$+2"}, {0x1280, "$-126"}, {0xff7f, "$+129"}, {65534, "$+0"}, {65535, "$+1"},
	} {
		for code, ahead := range map[uint8]string{0x10: "djnz ", 0x18: "jr ", 0x20: "jr nz,", 0x28: "jr z,", 0x30: "jr nc,", 0x38: "jr c,"} {
			for _, plane := range []int{api.Plain, api.DD, api.FD} {
				checkShow(t, api.Op{Plane: plane, Code: code, Disp: 9, Imm: w.imm}, ahead+w.want)
			}
		}
	}
}

func TestP9_2Numbers(t *testing.T) {
	for _, w := range []struct {
		imm   uint16
		n, nn string
	}{
		{0, "00h", "0000h"}, {7, "07h", "0007h"}, {255, "ffh", "00ffh"},
		// Of a number beyond 255 an n is the low byte.
		{256, "00h", "0100h"}, {0x1234, "34h", "1234h"}, {0xab0c, "0ch", "ab0ch"}, {65535, "ffh", "ffffh"},
	} {
		for _, plane := range []int{api.Plain, api.DD, api.FD} {
			checkShow(t, api.Op{Plane: plane, Code: 0x3e, Imm: w.imm}, "ld a,"+w.n)
			checkShow(t, api.Op{Plane: plane, Code: 0xd3, Imm: w.imm}, "out ("+w.n+"),a")
			checkShow(t, api.Op{Plane: plane, Code: 0xdb, Imm: w.imm}, "in a,("+w.n+")")
			checkShow(t, api.Op{Plane: plane, Code: 0xd6, Imm: w.imm}, "sub "+w.n)
			checkShow(t, api.Op{Plane: plane, Code: 0x01, Imm: w.imm}, "ld bc,"+w.nn)
			checkShow(t, api.Op{Plane: plane, Code: 0x32, Imm: w.imm}, "ld ("+w.nn+"),a")
			checkShow(t, api.Op{Plane: plane, Code: 0xc3, Imm: w.imm}, "jp "+w.nn)
			checkShow(t, api.Op{Plane: plane, Code: 0xfc, Imm: w.imm}, "call m,"+w.nn)
		}
		checkShow(t, api.Op{Plane: api.FD, Code: 0x36, Disp: 128, Imm: w.imm}, "ld (iy-128),"+w.n)
		checkShow(t, api.Op{Plane: api.ED, Code: 0x4b, Imm: w.imm}, "ld bc,("+w.nn+")")
	}
}

func TestP9_3AtTheEdges(t *testing.T) {
	for _, w := range []struct {
		plane      int
		code, disp uint8
		want       string
	}{
		{api.CB, 0x00, 5, "rlc b"}, {api.CB, 0x36, 5, "sll (hl)"}, {api.CB, 0x3c, 5, "srl h"}, {api.CB, 0x46, 5, "bit 0,(hl)"}, {api.CB, 0x7f, 5, "bit 7,a"}, {api.CB, 0x80, 5, "res 0,b"}, {api.CB, 0xfd, 5, "set 7,l"},
		// With h and l as they are; z 6, and bit, with no register.
		{api.DDCB, 0xc0, 5, "set 0,(ix+5),b"}, {api.DDCB, 0x04, 0, "rlc (ix+0),h"}, {api.FDCB, 0xbd, 128, "res 7,(iy-128),l"}, {api.FDCB, 0x3f, 127, "srl (iy+127),a"},
		{api.DDCB, 0x06, 5, "rlc (ix+5)"}, {api.FDCB, 0x36, 255, "sll (iy-1)"}, {api.DDCB, 0x86, 5, "res 0,(ix+5)"}, {api.FDCB, 0xfe, 5, "set 7,(iy+5)"},
		{api.DDCB, 0x40, 5, "bit 0,(ix+5)"}, {api.DDCB, 0x46, 5, "bit 0,(ix+5)"}, {api.FDCB, 0x7f, 254, "bit 7,(iy-2)"}, {api.FDCB, 0x65, 128, "bit 4,(iy-128)"},
		// ED: x 1, with y 6 of in and out.
		{api.ED, 0x40, 5, "in b,(c)"}, {api.ED, 0x70, 5, "in f,(c)"}, {api.ED, 0x71, 5, "out (c),0"}, {api.ED, 0x79, 5, "out (c),a"}, {api.ED, 0x62, 5, "sbc hl,hl"}, {api.ED, 0x7a, 5, "adc hl,sp"},
		{api.ED, 0x44, 5, "neg"}, {api.ED, 0x7c, 5, "neg"}, {api.ED, 0x45, 5, "retn"}, {api.ED, 0x4d, 5, "reti"}, {api.ED, 0x7d, 5, "retn"},
		{api.ED, 0x46, 5, "im 0"}, {api.ED, 0x4e, 5, "im 0"}, {api.ED, 0x56, 5, "im 1"}, {api.ED, 0x5e, 5, "im 2"}, {api.ED, 0x7e, 5, "im 2"},
		{api.ED, 0x47, 5, "ld i,a"}, {api.ED, 0x5f, 5, "ld a,r"}, {api.ED, 0x67, 5, "rrd"}, {api.ED, 0x6f, 5, "rld"}, {api.ED, 0x77, 5, "nop*"}, {api.ED, 0x7f, 5, "nop*"},
		// ED: x 2, also with y below 4 and z above 3.
		{api.ED, 0xa0, 5, "ldi"}, {api.ED, 0xa3, 5, "outi"}, {api.ED, 0xab, 5, "outd"}, {api.ED, 0xb3, 5, "otir"}, {api.ED, 0xbb, 5, "otdr"}, {api.ED, 0xb1, 5, "cpir"}, {api.ED, 0xaa, 5, "ind"},
		{api.ED, 0x80, 5, "nop*"}, {api.ED, 0x9b, 5, "nop*"}, {api.ED, 0xa4, 5, "nop*"}, {api.ED, 0xbf, 5, "nop*"},
		// ED: x 0 and x 3.
		{api.ED, 0x00, 5, "nop*"}, {api.ED, 0x3f, 5, "nop*"}, {api.ED, 0xc0, 5, "nop*"}, {api.ED, 0xcb, 5, "nop*"}, {api.ED, 0xff, 5, "nop*"},
	} {
		checkShow(t, api.Op{Plane: w.plane, Code: w.code, Disp: w.disp, Imm: 7}, w.want)
	}
}

func TestP9_3OtherPlanes(t *testing.T) {
	for _, plane := range others {
		for code := range 256 {
			checkShow(t, api.Op{Plane: plane, Code: uint8(code), Disp: 5, Imm: 7, Len: 4}, "?")
		}
	}
}

func TestShowGoesByNeitherLenNorSkip(t *testing.T) {
	for _, plane := range planes {
		for code := range 256 {
			for _, n := range []int{1, 4, -1, 300, math.MinInt, math.MaxInt} {
				o := api.Op{Plane: plane, Code: uint8(code), Disp: 0xf5, Imm: 0x1234, Len: n, Skip: -n}
				checkShow(t, o, expand(pattern(plane, code), o))
			}
		}
	}
}

func TestP9_4AllAtTheEdges(t *testing.T) {
	for _, w := range []struct {
		b    []byte
		want []string
	}{
		{nil, nil},
		{[]byte{}, nil},
		// The document's examples.
		{[]byte{0xdd, 0x36, 0x05, 0x07}, []string{"ld (ix+5),07h"}},
		{[]byte{0x18, 0xfe}, []string{"jr $+0"}},
		{[]byte{0xed, 0xb0}, []string{"ldir"}},
		{[]byte{0xdd, 0xcb, 0x05, 0xc0}, []string{"set 0,(ix+5),b"}},
		// Several, in their order.
		{[]byte{0x3e, 0x07, 0x76}, []string{"ld a,07h", "halt"}},
		{[]byte{0x76, 0x00, 0x76, 0x76}, []string{"halt", "nop", "halt", "halt"}},
		// Bytes that end within an instruction.
		{[]byte{0x3e}, nil},
		{[]byte{0x76, 0x21, 0x76}, []string{"halt"}},
		{[]byte{0x00, 0xdd, 0x36, 0x05}, []string{"nop"}},
		{[]byte{0x00, 0xfd, 0xcb, 0x05}, []string{"nop"}},
		{[]byte{0x00, 0xdd, 0xdd}, []string{"nop"}},
		// Prefixes that play no part.
		{[]byte{0xdd, 0xfd, 0x23, 0xdd, 0xed, 0x44}, []string{"inc iy", "neg"}},
	} {
		checkAll(t, w.b, w.want)
	}
}

func TestP9_4AllOfHundredsOfBytes(t *testing.T) {
	var b []byte
	var want []string
	for _, plane := range planes {
		for code := range 256 {
			if isPrefix(code) && (plane == api.Plain || plane == api.DD || plane == api.FD) {
				continue
			}
			o := api.Op{Plane: plane, Code: uint8(code), Disp: uint8(code), Imm: 0xfd76}
			b = append(b, decode.Bytes(o)...)
			want = append(want, expand(pattern(plane, code), o))
			if code%64 == 63 {
				checkAll(t, b, want)
				checkAll(t, append(slices.Clone(b), 0xdd, 0x36, 0x76), want)
			}
		}
	}
	checkAll(t, b, want)
}

func TestP9_4AllOfAnyBytes(t *testing.T) {
	// Rows that go through all bytes again and again, by steps that share no divisor with 256.
	for step := 1; step < 256; step += 2 {
		b := make([]byte, 700)
		for n := range b {
			b[n] = byte(n*step + n/256)
		}
		ops, _ := decode.All(b)
		var want []string
		for _, o := range ops {
			want = append(want, expand(pattern(o.Plane, int(o.Code)), o))
		}
		checkAll(t, b, want)
	}
}

func TestP9_5TextsOfPlainDiffer(t *testing.T) {
	for _, imm := range []uint16{0, 7, 127, 128, 254, 255, 256, 0x1234, 65535} {
		seen := map[string]int{}
		for code := range 256 {
			if isPrefix(code) {
				continue
			}
			text := Show(api.Op{Code: uint8(code), Disp: 5, Imm: imm})
			if other, ok := seen[text]; ok {
				t.Errorf("the codes %#x and %#x are both %q", other, code, text)
			}
			seen[text] = code
		}
		if len(seen) != 252 {
			t.Errorf("%d texts, want 252", len(seen))
		}
	}
}

func TestP9_5NoTextIsEmpty(t *testing.T) {
	for _, plane := range slices.Concat(planes, others) {
		for code := range 256 {
			if Show(api.Op{Plane: plane, Code: uint8(code)}) == "" {
				t.Errorf("the text of code %#x in plane %d is empty", code, plane)
			}
		}
	}
}

func TestNoArgumentIsChanged(t *testing.T) {
	b := []byte{0xdd, 0x36, 0x05, 0x07, 0x21, 0x34, 0x12, 0xed, 0xb0, 0xfd, 0xcb, 0x05, 0xc0, 0xaa, 0xbb, 0xcc}
	was := slices.Clone(b)
	for n := range len(b) + 1 {
		All(b[:n])
	}
	if !bytes.Equal(b, was) {
		t.Errorf("% x became % x", was, b)
	}
}

func TestResultsAreInNewMemory(t *testing.T) {
	b := []byte{0x3e, 0x07, 0x76}
	want := []string{"ld a,07h", "halt"}
	one, other := All(b), All(b)
	clear(one[:cap(one)])
	if !slices.Equal(other, want) {
		t.Errorf("All became %q", other)
	}
	clear(b)
	if !slices.Equal(other, want) {
		t.Errorf("All became %q behind a change of the bytes", other)
	}
	checkAll(t, []byte{0x3e, 0x07, 0x76}, want)
}
