package trace

import (
	"fmt"
	"slices"
	"strings"
	"testing"

	"charabanc/api"
	"charabanc/decode"
	"charabanc/step"
	"charabanc/text"
)

// cutLine is a line's address, instruction and registers.
func cutLine(line string) (place, name, registers string) {
	place, rest, _ := strings.Cut(line, ": ")
	name, registers, _ = strings.Cut(rest, " | ")
	return place, name, registers
}

// worded is Code, and the instruction's text, by the document's words: with the memory byte by byte, and all that decode.Next needs of it.
func worded(w step.World) ([]uint8, string) {
	var m [65536]uint8
	for _, c := range w.M {
		m[c.Addr] = c.Data
	}
	var b []uint8
	for k := range 65536 {
		b = append(b, m[w.R.PC+uint16(k)])
		// 300 bytes have an instruction, or are prefixes.
		if o, ok := decode.Next(b); ok || k == 300 {
			if ok && o.Len <= 8 {
				return b, text.Show(o)
			}
			break
		}
	}
	return b[:8], ".."
}

// hold holds Code and Line against the second reader.
func hold(t *testing.T, what string, w step.World) {
	t.Helper()
	code, name := worded(w)
	checkCode(t, what, w, code, name)
}

func TestP16_1EveryCodeOfEveryPlane(t *testing.T) {
	c := chance(15)
	for _, ahead := range []string{"", "cb", "ed", "dd", "fd", "dd cb 05", "fd cb 80", "dd ed", "fd dd", "4*dd", "3*fd cb 07", "3*dd ed", "5*fd", "6*dd", "4*dd cb 01", "4*dd ed", "7*dd", "5*fd cb 00", "6*fd ed", "8*dd", "6*dd cb 02", "7*dd ed"} {
		for code := range 256 {
			b := append(bytesOf(ahead), uint8(code), c.byte(), c.byte(), c.byte())
			w := step.World{R: c.regs()}
			w.M = laid(w.R.PC, b, c.byte())
			hold(t, fmt.Sprintf("%x", b), w)
		}
	}
}

func TestP16_1AnyBytes(t *testing.T) {
	c := chance(61)
	for k := range 2000 {
		w := c.program(40, uint8(k%256))
		for at := range uint16(20) {
			v := w
			v.R.PC += at
			hold(t, fmt.Sprintf("program %d", k), v)
		}
	}
}

func TestP16_1EveryPairOfBytes(t *testing.T) {
	var w step.World
	for first := range 256 {
		for second := range 256 {
			w.R.PC = uint16(first*256 + second)
			w.M = []api.Cell{{Addr: w.R.PC + 1, Data: uint8(second)}, {Addr: w.R.PC, Data: uint8(first)}}
			// Behind them, there are zeros.
			o, _ := decode.Next([]uint8{uint8(first), uint8(second), 0, 0, 0})
			code := []uint8{uint8(first), uint8(second), 0, 0, 0}[:o.Len]
			if got := Code(w); !slices.Equal(got, code) {
				t.Fatalf("code %x, want %x", got, code)
			}
			place, name, registers := cutLine(Line(w))
			if place != fmt.Sprintf("%04xh", w.R.PC) || name != text.Show(o) || registers != shown(w.R) {
				t.Fatalf("%02x %02x: %s", first, second, Line(w))
			}
		}
	}
}
