package accept

import (
	"encoding/hex"
	"fmt"
	"math"
	"reflect"
	"slices"
	"strings"
	"testing"

	"charabanc/api"
)

// The edges: of PC and SP; of I and the vector; of R with what it is one fetch later; modes that go through a table; and numbers of which that are instructions.
var (
	words     = []uint16{0, 1, 2, 0x1234, 65534, 65535}
	bytes     = []uint8{0, 1, 127, 128, 254, 255}
	refreshes = []struct{ was, one uint8 }{{0, 1}, {5, 6}, {126, 127}, {127, 0}, {128, 129}, {254, 255}, {255, 128}}
	tables    = []int{2, 3, 4, 255, 256, 257, 258, 65536, -1, -2, -3, -256, math.MaxInt, math.MinInt}
	neither   = []int{0, 3, 4, 255, 256, 257, 258, 65537, 65538, -1, -2, -255, -254, math.MaxInt, math.MinInt}
)

// modes is all of them.
func modes() []int { return append([]int{0, 1}, tables...) }

// base is registers of which no two words are equal, with all that is cleared set.
func base() api.Regs {
	return api.Regs{
		AF: 0xa500, BC: 0x1234, DE: 0x5678, HL: 0x9abc,
		AF2: 0x0102, BC2: 0x0304, DE2: 0x0506, HL2: 0x0708,
		IX: 0x2340, IY: 0x4560, SP: 0x8000, PC: 0x0123, WZ: 0x7777,
		I: 0x3f, R: 0x05, IFF1: true, IFF2: true, Halted: true, Late: true,
	}
}

// bytesOf is the bytes of digits of 16.
func bytesOf(digits string) []uint8 {
	b, err := hex.DecodeString(strings.ReplaceAll(digits, " ", ""))
	if err != nil {
		panic(err)
	}
	return b
}

// reading tells whether a cycle's answer is read.
func reading(c api.Cycle) bool {
	return c.Kind == 1 || c.Kind == 2 || c.Kind == 4 || c.Kind == 6
}

// told is a cycle's text: F, R, W, I, O or A, its address, and what it writes; or how many states it takes within. A cycle that may not be is told field by field.
func told(c api.Cycle) string {
	at := fmt.Sprintf("%04x", c.Addr)
	data := fmt.Sprintf("=%02x", c.Data)
	for _, k := range []struct {
		same api.Cycle
		text string
	}{
		{api.Cycle{Kind: 1, Addr: c.Addr, T: 4}, "F" + at},
		{api.Cycle{Kind: 2, Addr: c.Addr, T: 3}, "R" + at},
		{api.Cycle{Kind: 3, Addr: c.Addr, Data: c.Data, T: 3}, "W" + at + data},
		{api.Cycle{Kind: 4, Addr: c.Addr, T: 4}, "I" + at},
		{api.Cycle{Kind: 5, Addr: c.Addr, Data: c.Data, T: 4}, "O" + at + data},
		{api.Cycle{Kind: 6, Addr: c.Addr, T: 6}, "A" + at},
		{api.Cycle{Kind: 7, T: c.T}, fmt.Sprint(c.T)},
	} {
		if c == k.same && c.T > 0 {
			return k.text
		}
	}
	return fmt.Sprintf("%+v", c)
}

// tale is cycles' text.
func tale(l []api.Cycle) string {
	var s []string
	for _, c := range l {
		s = append(s, told(c))
	}
	return strings.Join(s, " ")
}

// step is Next of this package, or of package next, of what was answered.
type step func(got []uint8) (api.Cycle, api.Regs, bool)

// of is Next of registers.
func of(r api.Regs, which int) step {
	return func(got []uint8) (api.Cycle, api.Regs, bool) { return Next(r, which, got) }
}

// spare is what stands in a list behind its end.
const spare = 0xc7

// kept is one step; it fails if the step changes what was answered, or what stands behind it.
func (s step) kept(t *testing.T, got []uint8) (api.Cycle, api.Regs, bool) {
	t.Helper()
	whole := append(slices.Clone(got), spare, spare, spare, spare, spare, spare)
	was := slices.Clone(whole)
	c, r, done := s(whole[:len(got)])
	if !slices.Equal(whole, was) {
		t.Errorf("answers %x (and what stands behind them) have become %x", was, whole)
	}
	return c, r, done
}

// play asks for all cycles, from the first one on, an answer more each time: what reads is answered by answers, and then by 0, all others by rest. Behind the end, more answers must change nothing.
func play(t *testing.T, s step, answers []uint8, rest uint8) ([]api.Cycle, api.Regs) {
	t.Helper()
	var l []api.Cycle
	var got []uint8
	for len(l) < 300 {
		c, r, done := s.kept(t, got)
		if done {
			if c != (api.Cycle{}) {
				t.Errorf("at the end, the cycle %+v is told", c)
			}
			for _, more := range [][]uint8{{0}, {rest}, {0xfb, 0xdd, 1, 2, 3, 4, 5, 6, 7}} {
				c, s, done := s.kept(t, append(slices.Clone(got), more...))
				if c != (api.Cycle{}) || s != r || !done {
					t.Errorf("with %x behind %x: %+v %+v %v, want %+v", more, got, c, s, done, r)
				}
			}
			return l, r
		}
		if r != (api.Regs{}) {
			t.Errorf("behind %x, registers are told: %+v", got, r)
		}
		b := rest
		if reading(c) {
			b = 0
			if len(answers) > 0 {
				b, answers = answers[0], answers[1:]
			}
		}
		l = append(l, c)
		got = append(got, b)
	}
	t.Fatal("no end")
	return nil, api.Regs{}
}

// check fails for each field that isn't the one that is wanted.
func check(t *testing.T, what string, got, want api.Regs) {
	t.Helper()
	if got == want {
		return
	}
	g, w := reflect.ValueOf(got), reflect.ValueOf(want)
	for n := range g.NumField() {
		if a, b := g.Field(n).Interface(), w.Field(n).Interface(); a != b {
			t.Errorf("%s: %s is %#v, want %#v", what, g.Type().Field(n).Name, a, b)
		}
	}
}

// row is an interrupt: how its registers differ from base, what is read, its cycles, and how the registers differ from base and from, but for what each interrupt clears, behind it.
type row struct {
	from    func(r *api.Regs)
	which   int
	answers string
	cycles  string
	set     func(r *api.Regs)
}

// run holds what Next answers against a row; the answers to what doesn't read play no part.
func (c row) run(t *testing.T) {
	t.Helper()
	r := base()
	if c.from != nil {
		c.from(&r)
	}
	want := r
	want.Halted, want.Late, want.IFF1 = false, false, false
	want.R = r.R/128*128 + (r.R%128+1)%128
	if c.which == 2 {
		want.IFF2 = false
	}
	if c.set != nil {
		c.set(&want)
	}
	what := fmt.Sprintf("%d with %s", c.which, c.answers)
	for _, rest := range []uint8{0, 1, 0x5a, 0xdd, 0xff} {
		l, s := play(t, of(r, c.which), bytesOf(c.answers), rest)
		if tale(l) != c.cycles {
			t.Errorf("%s: %s, want %s", what, tale(l), c.cycles)
		}
		check(t, what, s, want)
	}
}

func runAll(t *testing.T, rows []row) {
	t.Helper()
	for _, c := range rows {
		c.run(t)
	}
}
