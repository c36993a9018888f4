package next

import (
	"encoding/hex"
	"fmt"
	"reflect"
	"strings"
	"testing"

	"charabanc/api"
)

// base is registers of which no two words are equal.
func base() api.Regs {
	return api.Regs{
		AF: 0xa500, BC: 0x1234, DE: 0x5678, HL: 0x9abc,
		AF2: 0x0102, BC2: 0x0304, DE2: 0x0506, HL2: 0x0708,
		IX: 0x2340, IY: 0x4560, SP: 0x8000, PC: 0x0100, WZ: 0x7777,
		I: 0x3f, R: 0x05,
	}
}

// bytesOf is the bytes of digits of 16.
func bytesOf(digits string) []uint8 {
	b, err := hex.DecodeString(strings.ReplaceAll(digits, " ", ""))
	if err != nil {
		panic(err)
	}
	return b
}

// reading tells whether a cycle's answer is read.
func reading(c api.Cycle) bool {
	return c.Kind == api.Fetch || c.Kind == api.Read || c.Kind == api.In
}

// told is a cycle's text: F, R, W, I or O, its address, and what it writes; or how many states it takes within. A cycle that may not be is told field by field.
func told(c api.Cycle) string {
	var s string
	var same api.Cycle
	switch c.Kind {
	case api.Fetch:
		s, same = fmt.Sprintf("F%04x", c.Addr), api.Cycle{Kind: 1, Addr: c.Addr, T: 4}
	case api.Read:
		s, same = fmt.Sprintf("R%04x", c.Addr), api.Cycle{Kind: 2, Addr: c.Addr, T: 3}
	case api.Write:
		s, same = fmt.Sprintf("W%04x=%02x", c.Addr, c.Data), api.Cycle{Kind: 3, Addr: c.Addr, Data: c.Data, T: 3}
	case api.In:
		s, same = fmt.Sprintf("I%04x", c.Addr), api.Cycle{Kind: 4, Addr: c.Addr, T: 4}
	case api.Out:
		s, same = fmt.Sprintf("O%04x=%02x", c.Addr, c.Data), api.Cycle{Kind: 5, Addr: c.Addr, Data: c.Data, T: 4}
	case api.Inner:
		s, same = fmt.Sprintf("%d", c.T), api.Cycle{Kind: 7, T: c.T}
	}
	if c != same || c.T < 1 {
		return fmt.Sprintf("%+v", c)
	}
	return s
}

// tale is cycles' text.
func tale(l []api.Cycle) string {
	var s []string
	for _, c := range l {
		s = append(s, told(c))
	}
	return strings.Join(s, " ")
}

// step is Next or After, of what was answered.
type step func(got []uint8) (api.Cycle, api.Regs, bool)

// play asks for all cycles: what reads is answered by bytes, and then by 0, all others by rest.
func play(t *testing.T, s step, bytes []uint8, rest uint8) ([]api.Cycle, []uint8, api.Regs) {
	t.Helper()
	var l []api.Cycle
	var got []uint8
	for {
		c, r, done := s(got)
		if done {
			if c != (api.Cycle{}) {
				t.Errorf("at the end, the cycle %+v is told", c)
			}
			return l, got, r
		}
		if r != (api.Regs{}) {
			t.Errorf("behind %x, registers are told: %+v", got, r)
		}
		b := rest
		if reading(c) {
			b = 0
			if len(bytes) > 0 {
				b, bytes = bytes[0], bytes[1:]
			}
		}
		l = append(l, c)
		got = append(got, b)
		if len(l) > 1000 {
			t.Fatal("no end")
		}
	}
}

// ofNext is Next of registers.
func ofNext(r api.Regs) step {
	return func(got []uint8) (api.Cycle, api.Regs, bool) { return Next(r, got) }
}

// ofAfter is After of registers and a code.
func ofAfter(r api.Regs, code uint8) step {
	return func(got []uint8) (api.Cycle, api.Regs, bool) { return After(r, code, got) }
}

// check fails for each field that isn't the one that is wanted.
func check(t *testing.T, what string, got, want api.Regs) {
	t.Helper()
	if got == want {
		return
	}
	g, w := reflect.ValueOf(got), reflect.ValueOf(want)
	for n := range g.NumField() {
		if a, b := g.Field(n).Interface(), w.Field(n).Interface(); a != b {
			t.Errorf("%s: %s is %#x, want %#x", what, g.Type().Field(n).Name, a, b)
		}
	}
}

// row is an instruction: how its registers differ from base, the bytes that are read, its cycles, PC and R behind it, and what else is set.
type row struct {
	from   func(r *api.Regs)
	bytes  string
	cycles string
	pc     uint16
	rr     uint8
	set    func(r *api.Regs)
}

// run holds the instruction of a row against it, as Next has it and as After has it.
func (c row) run(t *testing.T) {
	t.Helper()
	r := base()
	if c.from != nil {
		c.from(&r)
	}
	want := r
	want.PC, want.R = c.pc, c.rr
	if c.set != nil {
		c.set(&want)
	}
	bytes := bytesOf(c.bytes)
	for _, rest := range []uint8{0, 0x5a, 0xff} {
		l, _, s := play(t, ofNext(r), bytes, rest)
		if tale(l) != c.cycles {
			t.Errorf("%s: %s, want %s", c.bytes, tale(l), c.cycles)
		}
		check(t, c.bytes, s, want)

		behind := r
		behind.PC++
		behind.R = r.R&128 | (r.R+1)&127
		l, _, s = play(t, ofAfter(behind, bytes[0]), bytes[1:], rest)
		_, rest, _ := strings.Cut(c.cycles, " ")
		if tale(l) != rest {
			t.Errorf("After of %s: %s, want %s", c.bytes, tale(l), rest)
		}
		check(t, "After of "+c.bytes, s, want)
	}
}

func runAll(t *testing.T, rows []row) {
	t.Helper()
	for _, c := range rows {
		c.run(t)
	}
}
