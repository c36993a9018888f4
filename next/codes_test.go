package next

import (
	"bytes"
	"fmt"
	"slices"
	"strings"
	"testing"

	"charabanc/api"
	"charabanc/decode"
	"charabanc/times"
)

// The cycles of the codes 0 to 255, a row for each 16 of them, if no condition holds and nothing is repeated: F, R, W, I and O, and states within; - is a prefix.
const (
	shapesPlain = `
		F   FRR FW    F2 F    F    FR  F    F  F7 FR    F2 F   F      FR F
		F1R FRR FW    F2 F    F    FR  F    FR5 F7 FR   F2 F   F      FR F
		FR  FRR FRRWW F2 F    F    FR  F    FR F7 FRRRR F2 F   F      FR F
		FR  FRR FRRW  F2 FR1W FR1W FRW F    FR F7 FRRR  F2 F   F      FR F
		F   F   F     F  F    F    FR  F    F  F  F     F  F   F      FR F
		F   F   F     F  F    F    FR  F    F  F  F     F  F   F      FR F
		F   F   F     F  F    F    FR  F    F  F  F     F  F   F      FR F
		FW  FW  FW    FW FW   FW   F   FW   F  F  F     F  F   F      FR F
		F   F   F     F  F    F    FR  F    F  F  F     F  F   F      FR F
		F   F   F     F  F    F    FR  F    F  F  F     F  F   F      FR F
		F   F   F     F  F    F    FR  F    F  F  F     F  F   F      FR F
		F   F   F     F  F    F    FR  F    F  F  F     F  F   F      FR F
		F1  FRR FRR   FRR     FRR  F1WW FR F1WW  F1 FRR FRR -  FRR FRR1WW FR F1WW
		F1  FRR FRR   FRO     FRR  F1WW FR F1WW  F1 F  FRR FRI FRR -      FR F1WW
		F1  FRR FRR   FRR1WW2 FRR  F1WW FR F1WW  F1 F  FRR F   FRR -      FR F1WW
		F1  FRR FRR   F       FRR  F1WW FR F1WW  F1 F2 FRR F   FRR -      FR F1WW`

	shapesIndex = `
		FF     FFRR   FFW     FF2    FF       FF       FFR    FF      FF   FF7 FFR    FF2 FF FF FFR FF
		FF1R   FFRR   FFW     FF2    FF       FF       FFR    FF      FFR5 FF7 FFR    FF2 FF FF FFR FF
		FFR    FFRR   FFRRWW  FF2    FF       FF       FFR    FF      FFR  FF7 FFRRRR FF2 FF FF FFR FF
		FFR    FFRR   FFRRW   FF2    FFR5R1W  FFR5R1W  FFRR2W FF      FFR  FF7 FFRRR  FF2 FF FF FFR FF
		FF     FF     FF      FF     FF       FF       FFR5R  FF      FF FF FF FF FF FF FFR5R FF
		FF     FF     FF      FF     FF       FF       FFR5R  FF      FF FF FF FF FF FF FFR5R FF
		FF     FF     FF      FF     FF       FF       FFR5R  FF      FF FF FF FF FF FF FFR5R FF
		FFR5W  FFR5W  FFR5W   FFR5W  FFR5W    FFR5W    FF     FFR5W   FF FF FF FF FF FF FFR5R FF
		FF     FF     FF      FF     FF       FF       FFR5R  FF      FF FF FF FF FF FF FFR5R FF
		FF     FF     FF      FF     FF       FF       FFR5R  FF      FF FF FF FF FF FF FFR5R FF
		FF     FF     FF      FF     FF       FF       FFR5R  FF      FF FF FF FF FF FF FFR5R FF
		FF     FF     FF      FF     FF       FF       FFR5R  FF      FF FF FF FF FF FF FFR5R FF
		FF1    FFRR   FFRR    FFRR   FFRR     FF1WW    FFR    FF1WW   FF1 FFRR FFRR - FFRR FFRR1WW FFR FF1WW
		FF1    FFRR   FFRR    FFRO   FFRR     FF1WW    FFR    FF1WW   FF1 FF  FFRR FFRI FFRR - FFR FF1WW
		FF1    FFRR   FFRR    FFRR1WW2 FFRR   FF1WW    FFR    FF1WW   FF1 FF  FFRR FF   FFRR - FFR FF1WW
		FF1    FFRR   FFRR    FF     FFRR     FF1WW    FFR    FF1WW   FF1 FF2 FFRR FF   FFRR - FFR FF1WW`

	shapesED = `
		FF FF FF FF FF FF FF FF   FF FF FF FF FF FF FF FF
		FF FF FF FF FF FF FF FF   FF FF FF FF FF FF FF FF
		FF FF FF FF FF FF FF FF   FF FF FF FF FF FF FF FF
		FF FF FF FF FF FF FF FF   FF FF FF FF FF FF FF FF
		FFI FFO FF7 FFRRWW FF FFRR FF FF1     FFI FFO FF7 FFRRRR FF FFRR FF FF1
		FFI FFO FF7 FFRRWW FF FFRR FF FF1     FFI FFO FF7 FFRRRR FF FFRR FF FF1
		FFI FFO FF7 FFRRWW FF FFRR FF FFR4W   FFI FFO FF7 FFRRRR FF FFRR FF FFR4W
		FFI FFO FF7 FFRRWW FF FFRR FF FF      FFI FFO FF7 FFRRRR FF FFRR FF FF
		FF FF FF FF FF FF FF FF   FF FF FF FF FF FF FF FF
		FF FF FF FF FF FF FF FF   FF FF FF FF FF FF FF FF
		FFRW2 FFR5 FF1IW FF1RO FF FF FF FF   FFRW2 FFR5 FF1IW FF1RO FF FF FF FF
		FFRW2 FFR5 FF1IW FF1RO FF FF FF FF   FFRW2 FFR5 FF1IW FF1RO FF FF FF FF
		FF FF FF FF FF FF FF FF   FF FF FF FF FF FF FF FF
		FF FF FF FF FF FF FF FF   FF FF FF FF FF FF FF FF
		FF FF FF FF FF FF FF FF   FF FF FF FF FF FF FF FF
		FF FF FF FF FF FF FF FF   FF FF FF FF FF FF FF FF`
)

// planes is the seven planes.
var planes = []int{api.Plain, api.CB, api.ED, api.DD, api.FD, api.DDCB, api.FDCB}

// The codes that ask for something: of the planes Plain, DD and FD, and of ED.
var (
	jumps   = []byte{0x10, 0x20, 0x28, 0x30, 0x38}
	returns = []byte{0xc0, 0xc8, 0xd0, 0xd8, 0xe0, 0xe8, 0xf0, 0xf8}
	calls   = []byte{0xc4, 0xcc, 0xd4, 0xdc, 0xe4, 0xec, 0xf4, 0xfc}
	repeats = []byte{0xb0, 0xb1, 0xb2, 0xb3, 0xb8, 0xb9, 0xba, 0xbb}
)

// shapesOf is the 256 shapes of a plane.
func shapesOf(plane int) []string {
	rows := ""
	switch plane {
	case api.Plain:
		rows = shapesPlain
	case api.DD, api.FD:
		rows = shapesIndex
	case api.ED:
		rows = shapesED
	case api.CB:
		rows = strings.Repeat("FF FF FF FF FF FF FFR1W FF ", 8) +
			strings.Repeat("FF FF FF FF FF FF FFR1 FF ", 8) +
			strings.Repeat("FF FF FF FF FF FF FFR1W FF ", 16)
	default:
		rows = strings.Repeat("FFRR2R1W ", 64) + strings.Repeat("FFRR2R1 ", 64) + strings.Repeat("FFRR2R1W ", 128)
	}
	l := strings.Fields(rows)
	if len(l) != 256 {
		panic(fmt.Sprint("shapes of plane ", plane, ": ", len(l)))
	}
	return l
}

// more is what a code's cycles go on with if what it asks for holds.
func more(plane int, code byte) string {
	switch plane {
	case api.Plain, api.DD, api.FD:
		switch {
		case bytes.IndexByte(jumps, code) >= 0:
			return "5"
		case bytes.IndexByte(returns, code) >= 0:
			return "RR"
		case bytes.IndexByte(calls, code) >= 0:
			return "1WW"
		}
	case api.ED:
		if bytes.IndexByte(repeats, code) >= 0 {
			return "5"
		}
	}
	return ""
}

// shape is cycles' kinds.
func shape(l []api.Cycle) string {
	s := ""
	for _, c := range l {
		if c.Kind == api.Inner {
			s += fmt.Sprint(c.T)
		} else {
			s += string(" FRWIO"[c.Kind])
		}
	}
	return s
}

// lead is the bytes ahead of a code that make it one of its plane; a displacement, where it stands ahead of the code.
func lead(plane int, disp uint8) []uint8 {
	return [][]uint8{{}, {0xcb}, {0xed}, {0xdd}, {0xfd}, {0xdd, 0xcb, disp}, {0xfd, 0xcb, disp}}[plane]
}

// prefixed tells whether a code is none of its plane, but leads to another one.
func prefixed(plane int, code int) bool {
	return (plane == api.Plain || plane == api.DD || plane == api.FD) &&
		(code == 0xcb || code == 0xdd || code == 0xed || code == 0xfd)
}

// noise is bytes from all over, the same for each seed.
func noise(seed, n int) []uint8 {
	x := uint64(seed)*0x9e3779b97f4a7c15 + 0x1234567
	l := make([]uint8, n)
	for i := range l {
		x ^= x << 13
		x ^= x >> 7
		x ^= x << 17
		l[i] = uint8(x >> 32)
	}
	return l
}

// samples is registers at the edges, and some from all over.
func samples() []api.Regs {
	edges := []uint16{0, 1, 65534, 65535}
	counts := []uint16{0, 1, 2, 256, 65535, 0x0100, 0x0201, 0x01ff}
	flags := []uint16{0, 255, 1, 254, 64, 191, 4, 251, 128, 127}
	refresh := []uint8{0, 126, 127, 128, 254, 255, 5}
	var l []api.Regs
	for n := range 20 {
		r := base()
		r.SP, r.HL = edges[n%4], edges[(n/4+n)%4]
		r.IX, r.IY = edges[(n+1)%4], edges[(n+2)%4]
		r.PC, r.DE = edges[(n/2)%4], edges[(n/3)%4]
		r.BC = counts[n%8]
		r.AF = uint16(n*37)<<8 | flags[n%10]
		r.R = refresh[n%7]
		r.WZ = uint16(n * 5003)
		r.IFF1, r.IFF2, r.Late = n%2 == 0, n%3 == 0, n%5 == 0
		r.Mode = n%4 - 1
		l = append(l, r)
	}
	for n := range 12 {
		b := noise(n, 32)
		w := func(i int) uint16 { return uint16(b[i])<<8 | uint16(b[i+1]) }
		l = append(l, api.Regs{
			AF: w(0), BC: w(2), DE: w(4), HL: w(6), AF2: w(8), BC2: w(10), DE2: w(12), HL2: w(14),
			IX: w(16), IY: w(18), SP: w(20), PC: w(22), WZ: w(24), I: b[26], R: b[27],
			IFF1: b[28]%2 == 0, IFF2: b[29]%2 == 0, Late: b[30]%2 == 0, Mode: int(b[31] % 3),
		})
	}
	return append(l, api.Regs{}, base())
}

// feeder answers what reads by bytes and then by noise, and all else by rest.
func feeder(bytes, noise []uint8, rest uint8) func(c api.Cycle) uint8 {
	l := slices.Concat(bytes, noise)
	return func(c api.Cycle) uint8 {
		if !reading(c) {
			return rest
		}
		b := l[0]
		l = l[1:]
		return b
	}
}

// hold holds Next or After against the second reader: each cycle in its turn, the end with all answers and with more of them, and that what isn't read plays no part.
func hold(t *testing.T, what string, s step, w *worded) {
	t.Helper()
	other := slices.Clone(w.got)
	for k, c := range w.cycles {
		if !reading(c) {
			other[k] = ^other[k]
		}
	}
	for k, want := range w.cycles {
		for _, got := range [][]uint8{w.got[:k], other[:k]} {
			if c, r, done := s(got); c != want || r != (api.Regs{}) || done {
				t.Fatalf("%s behind %x: %+v %+v %v, want %+v", what, got, c, r, done, want)
			}
		}
	}
	for _, got := range [][]uint8{w.got, other, append(slices.Clone(w.got), 0), append(slices.Clone(w.got), 0xdd, 0xff, 1, 2, 3)} {
		c, r, done := s(got)
		if c != (api.Cycle{}) || !done {
			t.Fatalf("%s behind %x: %+v %v, want the end", what, got, c, done)
		}
		check(t, fmt.Sprintf("%s behind %x", what, got), r, w.r)
	}
	if t.Failed() {
		t.FailNow()
	}
}

// holdBoth holds Next against the second reader, and After, too.
func holdBoth(t *testing.T, r api.Regs, bytes []uint8, seed int) {
	t.Helper()
	what := fmt.Sprintf("%x of %+v", bytes, r)
	w := word(r, feeder(bytes, noise(seed, 16), uint8(seed)))
	hold(t, what, ofNext(r), w)

	behind := r
	behind.PC++
	behind.R = r.R&128 | (r.R+1)&127
	a := wordAfter(behind, bytes[0], feeder(bytes[1:], noise(seed, 16), uint8(seed)))
	if a.r != w.r || !slices.Equal(a.cycles, w.cycles[1:]) {
		t.Fatalf("%s: the second reader differs from itself", what)
	}
	hold(t, "After of "+what, ofAfter(behind, bytes[0]), a)
}

func TestP12_1EveryCodeOfEveryPlane(t *testing.T) {
	for _, plane := range planes {
		t.Run(fmt.Sprint("plane ", plane), func(t *testing.T) {
			t.Parallel()
			disps := []uint8{0, 127, 128, 255, 5}
			for n, r := range samples() {
				for code := range 256 {
					if prefixed(plane, code) {
						continue
					}
					disp := disps[(n+code)%len(disps)]
					b := append(lead(plane, disp), uint8(code))
					if decode.Near(plane, uint8(code)) && plane < api.DDCB {
						b = append(b, disp)
					}
					holdBoth(t, r, b, n*256+code)
				}
			}
		})
	}
}

func TestP12_1AnyDisplacement(t *testing.T) {
	for _, plane := range []int{api.DD, api.FD, api.DDCB, api.FDCB} {
		t.Run(fmt.Sprint("plane ", plane), func(t *testing.T) {
			t.Parallel()
			for n, index := range []uint16{0x2340, 0, 1, 65534, 65535} {
				r := base()
				r.IX, r.IY = index, ^index
				for code := range 256 {
					if !decode.Near(plane, uint8(code)) {
						continue
					}
					for disp := n; disp < 256; disp += 1 + 16*min(n, 1) {
						b := append(lead(plane, uint8(disp)), uint8(code))
						if plane < api.DDCB {
							b = append(b, uint8(disp))
						}
						w := word(r, feeder(b, noise(disp, 16), 0))
						l, _, s := play(t, ofNext(r), slices.Concat(b, noise(disp, 16)), 0)
						if !slices.Equal(l, w.cycles) || s != w.r {
							t.Fatalf("%x: %s %+v, want %s %+v", b, tale(l), s, tale(w.cycles), w.r)
						}
					}
				}
			}
		})
	}
}

func TestP12_1ChainsOfPrefixesAgainstTheSecondReader(t *testing.T) {
	chains := []string{"dd", "fd", "dd dd", "fd fd", "dd fd", "fd dd", "dd fd dd", "fd dd fd", "dd ed", "fd ed", "dd fd ed", "fd dd ed", "dd dd cb", "fd dd cb", "dd fd cb", "fd fd fd cb"}
	for _, chain := range chains {
		t.Run(chain, func(t *testing.T) {
			t.Parallel()
			for code := range 256 {
				b := bytesOf(chain)
				if b[len(b)-1] == 0xcb {
					b = append(b, uint8(code*7))
				} else if b[len(b)-1] != 0xed && prefixed(api.DD, code) {
					continue
				}
				b = append(b, uint8(code))
				for n, r := range samples()[:8] {
					holdBoth(t, r, b, n*256+code)
				}
			}
		})
	}
}

// unchanged is the codes that DD and FD don't change: neither HL nor the byte at M is in them.
func unchanged(code int) bool {
	x, y, z, p, _ := decode.Fields(uint8(code))
	named := func(n int) bool { return n >= 4 && n <= 6 }
	switch x {
	case 0:
		switch z {
		case 1:
			return p != 2 && code%16 == 1
		case 2:
			return y != 4 && y != 5
		case 3:
			return p != 2
		case 4, 5, 6:
			return !named(y)
		}
		return true
	case 1:
		return code == 0x76 || !named(y) && !named(z)
	case 2:
		return !named(z)
	}
	return !prefixed(api.Plain, code) && code != 0xe1 && code != 0xe3 && code != 0xe5 && code != 0xe9 && code != 0xf9
}

func TestP12_1PrefixesAheadOfCodesThatTheyDontChange(t *testing.T) {
	count := 0
	for code := range 256 {
		if !unchanged(code) {
			continue
		}
		count++
		for n, r := range samples() {
			seen := slices.Concat([]uint8{uint8(code)}, noise(n, 16))
			// One byte on, and one advance of R on: then all is the same behind the prefix.
			behind := r
			behind.PC++
			behind.R = r.R&128 | (r.R+1)&127
			want, _, s := play(t, ofNext(behind), seen, 0)
			for _, prefix := range []uint8{0xdd, 0xfd} {
				l, _, q := play(t, ofNext(r), slices.Concat([]uint8{prefix}, seen), 0)
				if !slices.Equal(l[1:], want) {
					t.Fatalf("%x %x: %s, want %s", prefix, code, tale(l[1:]), tale(want))
				}
				check(t, fmt.Sprintf("%x %x", prefix, code), q, s)
			}
		}
	}
	if count < 140 {
		t.Error(count)
	}
}

// forced is registers for which what a code asks for holds, or doesn't; what is read behind the code is 0.
func forced(plane int, code byte, taken bool) api.Regs {
	r := base()
	switch {
	case plane == api.ED && taken, code == 0x10 && taken:
		r.BC = 0x0202
	case plane == api.ED && code&3 < 2:
		r.BC = 1
	case plane == api.ED, code == 0x10:
		r.BC = 0x0100
	default:
		// An odd condition asks for its flag to be set, an even one for it to be clear; here all four are set, or none.
		odd := code&8 != 0
		if odd == taken {
			r.AF |= 0xc5
		}
	}
	return r
}

func TestP12_3StatesAndCyclesOfEveryCode(t *testing.T) {
	for _, plane := range planes {
		shapes := shapesOf(plane)
		for code := range 256 {
			if prefixed(plane, code) {
				if shapes[code] != "-" {
					t.Errorf("plane %d: the shape of %02x is %s", plane, code, shapes[code])
				}
				continue
			}
			for _, chain := range []string{"", "dd", "fd dd fd"} {
				op := api.Op{Plane: plane, Code: uint8(code)}
				b := decode.Bytes(op)
				wanted := shapes[code]
				// A prefix plays no part only if another one, or ED, comes behind it.
				if chain != "" && plane != api.DD && plane != api.FD && plane != api.ED && plane != api.DDCB && plane != api.FDCB {
					continue
				}
				b = append(bytesOf(chain), b...)
				wanted = strings.Repeat("F", len(bytesOf(chain))) + wanted
				op, ok := decode.Next(b)
				if !ok || op.Plane != plane || op.Skip != len(bytesOf(chain)) {
					t.Fatal(op, ok)
				}
				for _, taken := range []bool{false, true} {
					if taken && more(plane, uint8(code)) == "" {
						continue
					}
					r := forced(plane, uint8(code), taken)
					want := wanted
					if taken {
						want += more(plane, uint8(code))
					}
					l, _, _ := play(t, ofNext(r), b, 0x5a)
					if shape(l) != want {
						t.Errorf("%x, taken %v: %s, want %s", b, taken, shape(l), want)
					}
					states, cycles := Takes(r, b)
					if states != times.Of(op, taken) || cycles != len(l) {
						t.Errorf("%x, taken %v: %d states in %d cycles, want %d in %d", b, taken, states, cycles, times.Of(op, taken), len(l))
					}
				}
			}
		}
	}
}

func TestP12_3StatesOfManyRegisters(t *testing.T) {
	for _, plane := range planes {
		t.Run(fmt.Sprint("plane ", plane), func(t *testing.T) {
			t.Parallel()
			for code := range 256 {
				if prefixed(plane, code) {
					continue
				}
				unheld, held := shapesOf(plane)[code], shapesOf(plane)[code]+more(plane, uint8(code))
				for n, r := range samples() {
					b := slices.Concat(lead(plane, uint8(n)), []uint8{uint8(code)}, noise(n+code, 16))
					op, _ := decode.Next(b)
					l, _, _ := play(t, ofNext(r), b, 0)
					states, cycles := Takes(r, b)
					taken := shape(l) == held && held != unheld
					if !taken && shape(l) != unheld {
						t.Fatalf("%x: %s, want %s or %s", b, shape(l), unheld, held)
					}
					if states != times.Of(op, taken) || cycles != len(l) {
						t.Fatalf("%x: %d states in %d cycles, want %d in %d", b, states, cycles, times.Of(op, taken), len(l))
					}
				}
			}
		})
	}
}

func TestP12_1BlocksToTheirEnd(t *testing.T) {
	for _, count := range []uint16{1, 2, 256, 257} {
		for _, code := range repeats {
			r := base()
			r.BC = count
			r.AF = 0xa500
			port := code&3 >= 2
			steps := 0
			for {
				steps++
				_, _, s := play(t, ofNext(r), []uint8{0xed, code, 0x11}, 0)
				again := s.PC == r.PC
				if !again && s.PC != r.PC+2 {
					t.Fatalf("%x: PC is %x", code, s.PC)
				}
				r = s
				if !again {
					break
				}
			}
			want := int(count)
			if port {
				// B counts, and C stays: of 1 and 2, B is 0, which is 256 passes.
				want = int(count / 256)
				if want == 0 {
					want = 256
				}
			}
			if steps != want {
				t.Errorf("%x with BC %d: %d steps, want %d", code, count, steps, want)
			}
		}
	}
	r := base()
	r.BC = 0
	for n := range 65536 {
		_, _, r = play(t, ofNext(r), []uint8{0xed, 0xb0, 0x11}, 0)
		if (r.PC == 0x100) != (n < 65535) {
			t.Fatal(n, r.PC)
		}
	}
}

func TestP12_2Takes(t *testing.T) {
	halted := base()
	halted.Halted = true
	long := func(n int, last ...uint8) []uint8 { return append(slices.Repeat([]uint8{0xdd}, n), last...) }
	mixed := slices.Repeat([]uint8{0xdd, 0xfd, 0xfd}, 200)
	for _, c := range []struct {
		what           string
		r              api.Regs
		answers        []uint8
		states, cycles int
	}{
		{"nothing", base(), nil, 4, 1},
		{"no bytes", base(), []uint8{}, 4, 1},
		{"nop", base(), []uint8{0}, 4, 1},
		{"more than is read", base(), []uint8{0, 0xcd, 0xdd, 1, 2, 3}, 4, 1},
		{"ld (ix+5),9", base(), []uint8{0xdd, 0x36, 5, 9}, 19, 6},
		{"ld (ix+0),0", base(), []uint8{0xdd, 0x36}, 19, 6},
		{"a prefix, and 0", base(), []uint8{0xfd}, 8, 2},
		{"cb, and 0", base(), []uint8{0xcb}, 8, 2},
		{"ed, and 0", base(), []uint8{0xed}, 8, 2},
		{"dd cb 0 0", base(), []uint8{0xdd, 0xcb}, 23, 8},
		{"call 0", base(), []uint8{0xcd}, 17, 6},
		{"jr 0", base(), []uint8{0x18}, 12, 3},
		{"in a,(0)", base(), []uint8{0xdb}, 11, 3},
		{"out (0),a", base(), []uint8{0xd3}, 11, 3},
		{"ex (sp),hl", base(), []uint8{0xe3}, 19, 7},
		{"ex (sp),ix", base(), []uint8{0xdd, 0xe3}, 23, 8},
		{"ldir", base(), []uint8{0xed, 0xb0}, 21, 6},
		{"cpir of A", base(), []uint8{0xed, 0xb1, 0xa5}, 16, 4},
		{"cpir of 0", base(), []uint8{0xed, 0xb1}, 21, 5},
		{"inir", base(), []uint8{0xed, 0xb2}, 21, 6},
		{"halted", halted, nil, 4, 1},
		{"halted, at a call", halted, []uint8{0xcd, 1, 2}, 4, 1},
		{"198 prefixes", base(), long(198, 0x3e), 198*4 + 4 + 3, 200},
		{"199 prefixes", base(), long(199), 800, 200},
		{"199 prefixes, and ld a", base(), long(199, 0x3e, 1), 800, 200},
		{"197 prefixes, and add ix", base(), long(197, 0x09), 197*4 + 4 + 7, 199},
		{"198 prefixes, and add ix", base(), long(198, 0x09), 198*4 + 4 + 7, 200},
		{"199 prefixes, and add ix", base(), long(199, 0x09), 800, 200},
		{"200 prefixes", base(), long(200), 800, 200},
		{"201 prefixes", base(), long(201), 800, 200},
		{"100000 prefixes", base(), long(100000), 800, 200},
		{"prefixes without an end", base(), mixed, 800, 200},
		{"196 prefixes, cb", base(), long(196, 0xcb), 196*4 + 4 + 3 + 3 + 2, 200},
	} {
		if states, cycles := Takes(c.r, c.answers); states != c.states || cycles != c.cycles {
			t.Errorf("%s: %d states in %d cycles, want %d in %d", c.what, states, cycles, c.states, c.cycles)
		}
	}
}

func TestP12_2OfManyRegisters(t *testing.T) {
	for code := range 256 {
		for n, r := range samples() {
			b := append([]uint8{uint8(code)}, noise(n*3+code, 16)...)
			w := word(r, feeder(b, nil, 0))
			states := 0
			for _, c := range w.cycles {
				states += c.T
			}
			if s, c := Takes(r, b); s != states || c != len(w.cycles) {
				t.Fatalf("%x: %d states in %d cycles, want %d in %d", b, s, c, states, len(w.cycles))
			}
			// Without the bytes, zeroes are read.
			w = word(r, feeder(b[:1], make([]uint8, 16), 0))
			states = 0
			for _, c := range w.cycles {
				states += c.T
			}
			if s, c := Takes(r, b[:1]); s != states || c != len(w.cycles) {
				t.Fatalf("%x: %d states in %d cycles, want %d in %d", b[:1], s, c, states, len(w.cycles))
			}
		}
	}
}

func TestNoArgumentIsChanged(t *testing.T) {
	for _, plane := range planes {
		for code := range 256 {
			b := slices.Concat(lead(plane, 5), []uint8{uint8(code)}, noise(code, 24))
			was := slices.Clone(b)
			r := base()
			_, got, want := play(t, ofNext(r), b, 0x77)
			// Room behind the end, which isn't to be written to either.
			room := slices.Concat(got, noise(code+1, 24))
			full := slices.Clone(room)
			for k := range len(got) + 1 {
				Next(r, room[:k])
				After(r, uint8(code), room[:k])
				Takes(r, b[:k%len(b)])
			}
			Takes(r, b)
			if r != base() || !bytes.Equal(b, was) || !bytes.Equal(room, full) {
				t.Fatalf("%x: an argument was changed", b)
			}
			// What was answered earlier plays no part.
			if _, s, done := Next(r, got); s != want || !done {
				t.Fatalf("%x: %+v, want %+v", b, s, want)
			}
		}
	}
}
