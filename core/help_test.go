package core

import (
	"encoding/hex"
	"fmt"
	"reflect"
	"slices"
	"strings"
	"testing"

	"charabanc/api"
	"charabanc/cycle"
)

// base is registers of which no two words are equal.
func base() api.Regs {
	return api.Regs{
		AF: 0xa500, BC: 0x1234, DE: 0x5678, HL: 0x9abc,
		AF2: 0x0102, BC2: 0x0304, DE2: 0x0506, HL2: 0x0708,
		IX: 0x2340, IY: 0x4560, SP: 0x8000, PC: 0x0123, WZ: 0x7777,
		I: 0x3f, R: 0x05,
	}
}

// bytesOf is the bytes of digits of 16.
func bytesOf(digits string) []uint8 {
	b, err := hex.DecodeString(strings.ReplaceAll(digits, " ", ""))
	if err != nil {
		panic(err)
	}
	return b
}

// fetch is the first cycle of an instruction.
func fetch(pc uint16) api.Cycle { return api.Cycle{Kind: api.Fetch, Addr: pc, T: 4} }

// letters is the lines, each by its letter.
const letters = "wbinr"

// lit is lines by their letters; any other letter is no line.
func lit(word string) Lines {
	return Lines{
		Wait:  strings.Contains(word, "w"),
		Bus:   strings.Contains(word, "b"),
		Irq:   strings.Contains(word, "i"),
		Nmi:   strings.Contains(word, "n"),
		Reset: strings.Contains(word, "r"),
	}
}

// allLines is every combination of lines.
func allLines() []Lines {
	var all []Lines
	for n := range 32 {
		word := ""
		for k, letter := range letters {
			if n>>k&1 != 0 {
				word += string(letter)
			}
		}
		all = append(all, lit(word))
	}
	return all
}

// script is lines state by state: a word each, "." where there are none; "9*wb" is nine states.
func script(words string) []Lines {
	var l []Lines
	for word := range strings.FieldsSeq(words) {
		times := 1
		if count, rest, ok := strings.Cut(word, "*"); ok {
			fmt.Sscan(count, &times)
			word = rest
		}
		for range times {
			l = append(l, lit(word))
		}
	}
	return l
}

// told is a cycle's text: its kind, its address, and what it writes; or how many states it takes within. A cycle that may not be is told field by field.
func told(c api.Cycle) string {
	at := fmt.Sprintf("%04x", c.Addr)
	data := fmt.Sprintf("=%02x", c.Data)
	for _, k := range []struct {
		same api.Cycle
		text string
	}{
		{api.Cycle{Kind: 1, Addr: c.Addr, T: 4}, "F" + at},
		{api.Cycle{Kind: 2, Addr: c.Addr, T: 3}, "R" + at},
		{api.Cycle{Kind: 3, Addr: c.Addr, Data: c.Data, T: 3}, "W" + at + data},
		{api.Cycle{Kind: 4, Addr: c.Addr, T: 4}, "I" + at},
		{api.Cycle{Kind: 5, Addr: c.Addr, Data: c.Data, T: 4}, "O" + at + data},
		{api.Cycle{Kind: 6, Addr: c.Addr, T: 6}, "A" + at},
		{api.Cycle{Kind: 7, T: c.T}, fmt.Sprint(c.T)},
	} {
		if c == k.same && c.T > 0 {
			return k.text
		}
	}
	return fmt.Sprintf("%+v", c)
}

// shown is what a processor does, without its registers: which operation, the answers, the cycle with the states taken and waited, the byte, and n where an NMI waits, w where the line was active, o where the bus is let go.
func shown(c Core) string {
	marks := ""
	for k, is := range []bool{c.Nmi, c.Was, c.Off} {
		if is {
			marks += "nwo"[k : k+1]
		}
	}
	return fmt.Sprintf("%d [%x] %s %d+%d %02x %s", c.Which, c.Got, told(c.A.C), c.A.K, c.A.Waited, c.Byte, marks)
}

// same tells whether two processors are equal. (Answers that are nil are as good as empty ones.)
func same(a, b Core) bool {
	got := slices.Equal(a.Got, b.Got)
	a.Got, b.Got = nil, nil
	return got && reflect.DeepEqual(a, b)
}

// check fails for each field that isn't the one that is wanted.
func check(t *testing.T, what string, got, want Core) {
	t.Helper()
	if same(got, want) {
		return
	}
	t.Errorf("%s: %s, want %s", what, shown(got), shown(want))
	checkRegs(t, what, got.R, want.R)
}

func checkRegs(t *testing.T, what string, got, want api.Regs) {
	t.Helper()
	g, w := reflect.ValueOf(got), reflect.ValueOf(want)
	for n := range g.NumField() {
		if a, b := g.Field(n).Interface(), w.Field(n).Interface(); a != b {
			t.Errorf("%s: %s is %#v, want %#v", what, g.Type().Field(n).Name, a, b)
		}
	}
}

// spare is what stands in a list behind its end.
const spare = 0xc7

// guarded is a processor with a copy of the answers, behind which there is room with something in it.
func guarded(c Core) Core {
	whole := append(slices.Clone(c.Got), slices.Repeat([]uint8{spare}, 9)...)
	c.Got = whole[:len(c.Got)]
	return c
}

// checkGuard fails if a guarded processor isn't any more what it was, or what stands behind the end of its answers.
func checkGuard(t *testing.T, what string, g, was Core) {
	t.Helper()
	check(t, what+", as it was handed in", g, was)
	for _, b := range g.Got[len(g.Got):cap(g.Got)][:9] {
		if b != spare {
			t.Errorf("%s: behind the answers stands %x", what, g.Got[len(g.Got):cap(g.Got)])
			return
		}
	}
}

// tick is Tick, which must leave alone what it is given, and answer new memory.
func tick(t *testing.T, c Core, l Lines, b uint8) Core {
	t.Helper()
	g := guarded(c)
	n := Tick(g, l, b)
	what := fmt.Sprintf("Tick of %s with %+v", shown(c), l)
	checkGuard(t, what, g, c)
	want := slices.Clone(n.Got)
	for k := range g.Got[:cap(g.Got)] {
		g.Got[:cap(g.Got)][k] ^= 0xff
	}
	if !slices.Equal(n.Got, want) {
		t.Errorf("%s: the answer shares memory with what was handed in", what)
	}
	return n
}

// seen is a state's text, and the processor behind it: "-" while the bus is let go, "w" if it is waited, the access that is asked for or ".", and "!" if the bus may be let go behind it.
func seen(t *testing.T, c Core, l Lines, b uint8) (string, Core) {
	t.Helper()
	g := guarded(c)
	x, asks := Asks(g, l)
	ends := Ends(g, l, b)
	checkGuard(t, "Asks and Ends", g, c)
	n := tick(t, c, l, b)
	word := "."
	if c.Off {
		word = "-"
	}
	if n.A.Waited > c.A.Waited && n.A.K == c.A.K && n.A.C == c.A.C {
		word = "w"
	}
	if asks {
		word = told(x)
	} else if x != (api.Cycle{}) {
		t.Errorf("%s: false, and %+v", shown(c), x)
	}
	if ends {
		word += "!"
	}
	return word, n
}

// walk is the text of so many states as there are lines, and the processor behind them. What reads is answered by answers, and then by 0; where no byte is read, something else is on the bus.
func walk(t *testing.T, c Core, lines []Lines, answers []uint8) (string, Core) {
	t.Helper()
	var words []string
	for _, l := range lines {
		b := uint8(0xe7)
		if x, asks := Asks(c, l); asks && reads(x.Kind) {
			b = 0
			if len(answers) > 0 {
				b, answers = answers[0], answers[1:]
			}
		}
		var word string
		word, c = seen(t, c, l, b)
		words = append(words, word)
	}
	return strings.Join(words, " "), c
}

// reads tells whether a cycle's answer is a byte that is read.
func reads(kind int) bool {
	return kind == api.Fetch || kind == api.Read || kind == api.In || kind == api.Ack
}

// under is a processor with some answers, in a cycle of which so many states were taken.
func under(r api.Regs, which int, got string, c api.Cycle, k int) Core {
	return Core{R: r, Which: which, Got: bytesOf(got), A: cycle.At{C: c, K: k}}
}

// chance is numbers that look like any, the same ones on each run.
type chance uint64

func (c *chance) below(n int) int {
	*c = *c*6364136223846793005 + 1442695040888963407
	return int(uint64(*c)>>33) % n
}

func (c *chance) byte() uint8    { return uint8(c.below(256)) }
func (c *chance) word() uint16   { return uint16(c.below(65536)) }
func (c *chance) one(n int) bool { return c.below(n) == 0 }

// regs is any registers.
func (c *chance) regs() api.Regs {
	return api.Regs{
		AF: c.word(), BC: c.word(), DE: c.word(), HL: c.word(),
		AF2: c.word(), BC2: c.word(), DE2: c.word(), HL2: c.word(),
		IX: c.word(), IY: c.word(), SP: c.word(), PC: c.word(), WZ: c.word(),
		I: c.byte(), R: c.byte(),
		IFF1: c.one(2), IFF2: c.one(2), Halted: c.one(8), Late: c.one(4), Mode: c.below(5) - 1,
	}
}

// lines is any lines, each of them active in one state of n.
func (c *chance) lines(n int) Lines {
	return Lines{Wait: c.one(n), Bus: c.one(n), Irq: c.one(n), Nmi: c.one(n), Reset: c.one(n * 4)}
}
