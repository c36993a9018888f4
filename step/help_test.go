package step

import (
	"encoding/hex"
	"fmt"
	"math"
	"reflect"
	"slices"
	"strings"
	"testing"

	"charabanc/api"
)

// neither is numbers that stand for an instruction, as 0 does.
var neither = []int{0, 3, 4, 255, 256, 257, 258, 65537, 65538, -1, -2, -255, -254, math.MaxInt, math.MinInt}

// base is registers of which no two words are equal, with the latches set.
func base() api.Regs {
	return api.Regs{
		AF: 0xa500, BC: 0x1234, DE: 0x5678, HL: 0x9abc,
		AF2: 0x0102, BC2: 0x0304, DE2: 0x0506, HL2: 0x0708,
		IX: 0x2340, IY: 0x4560, SP: 0x8000, PC: 0x0100, WZ: 0x7777,
		I: 0x3f, R: 0x05, IFF1: true, IFF2: true, Late: true,
	}
}

// bytesOf is the bytes of digits of 16.
func bytesOf(digits string) []uint8 {
	b, err := hex.DecodeString(strings.ReplaceAll(digits, " ", ""))
	if err != nil {
		panic(err)
	}
	return b
}

// image is a memory byte by byte.
type image [65536]uint8

// imageOf is the image of any cells: the last one of an address counts.
func imageOf(l []api.Cell) *image {
	var m image
	for _, c := range l {
		m[c.Addr] = c.Data
	}
	return &m
}

// written sets bytes of an image by a text: of addresses, and of the bytes from there on ("0100: 3e 07; 9abc: 5a").
func (m *image) written(text string) *image {
	for part := range strings.SplitSeq(text, ";") {
		place, row, ok := strings.Cut(strings.TrimSpace(part), ":")
		if !ok {
			continue
		}
		at := int(bytesOf(place)[0])*256 + int(bytesOf(place)[1])
		for k, b := range bytesOf(row) {
			m[(at+k)%65536] = b
		}
	}
	return m
}

// memory is the cells of an image.
func (m *image) memory() []api.Cell {
	var l []api.Cell
	for at, b := range m {
		if b != 0 {
			l = append(l, api.Cell{Addr: uint16(at), Data: b})
		}
	}
	return l
}

// memoryOf is a memory by a text.
func memoryOf(text string) []api.Cell { return new(image).written(text).memory() }

// forms is a memory, and lists of cells that are none, but stand for it.
func forms(l []api.Cell) [][]api.Cell {
	back := slices.Clone(l)
	slices.Reverse(back)
	var stale, empty []api.Cell
	for _, c := range l {
		stale = append(stale, api.Cell{Addr: c.Addr, Data: c.Data ^ 0x3c})
		empty = append(empty, c, api.Cell{Addr: c.Addr + 1, Data: 9}, api.Cell{Addr: c.Addr + 1})
	}
	return [][]api.Cell{
		l,
		back,
		slices.Concat(stale, l),
		slices.Concat(stale, back, l),
		slices.Concat([]api.Cell{{Addr: 0x7001}, {Addr: 0x7000}, {Addr: 0x7001}}, empty, back),
	}
}

// told is a cycle's text: F, R, W, I, O or A, its address and its byte. A cycle that may not be is told field by field.
func told(c api.Cycle) string {
	states := []int{1: 4, 2: 3, 3: 3, 4: 4, 5: 4, 6: 6}
	if c.Kind < 1 || c.Kind > 6 || c.T != states[c.Kind] {
		return fmt.Sprintf("%+v", c)
	}
	return fmt.Sprintf("%c%04x=%02x", " FRWIOA"[c.Kind], c.Addr, c.Data)
}

// tale is cycles' text.
func tale(l []api.Cycle) string {
	var s []string
	for _, c := range l {
		s = append(s, told(c))
	}
	return strings.Join(s, " ")
}

// checkRegs fails for each field that isn't the one that is wanted.
func checkRegs(t *testing.T, what string, got, want api.Regs) {
	t.Helper()
	if got == want {
		return
	}
	g, w := reflect.ValueOf(got), reflect.ValueOf(want)
	for n := range g.NumField() {
		if a, b := g.Field(n).Interface(), w.Field(n).Interface(); a != b {
			t.Errorf("%s: %s is %#v, want %#v", what, g.Type().Field(n).Name, a, b)
		}
	}
}

// checkCells fails unless cells are those that are wanted.
func checkCells(t *testing.T, what string, got, want []api.Cell) {
	t.Helper()
	if slices.Equal(got, want) {
		return
	}
	if len(got)+len(want) > 60 {
		t.Errorf("%s: %d cells, want %d; or they differ", what, len(got), len(want))
		return
	}
	t.Errorf("%s: cells %x, want %x", what, got, want)
}

// checkWorld fails unless a world is the one that is wanted.
func checkWorld(t *testing.T, what string, got, want World) {
	t.Helper()
	checkRegs(t, what, got.R, want.R)
	checkCells(t, what, got.M, want.M)
	if !slices.Equal(got.Ports, want.Ports) {
		t.Errorf("%s: ports %x, want %x", what, got.Ports, want.Ports)
	}
}

// What stands in lists behind their ends.
var (
	spareCell  = api.Cell{Addr: 0x5aa5, Data: 0xc7}
	spareByte  = uint8(0xc7)
	spareCycle = api.Cycle{Kind: api.Out, Addr: 0x5aa5, Data: 0xc7, T: 9}
)

// guarded is a copy of a list, with spare things behind its end.
func guarded[E any](l []E, spare E) []E {
	whole := append(slices.Clone(l), spare, spare, spare, spare, spare, spare)
	return whole[:len(l):len(whole)]
}

// intact tells whether a guarded list, and what stands behind it, is what it was.
func intact[E comparable](l, was []E, spare E) bool {
	behind := l[len(l):cap(l)]
	return slices.Equal(l, was) && !slices.ContainsFunc(behind, func(e E) bool { return e != spare })
}

// guard is a copy of a world, with spare things behind the ends of its lists.
func guard(w World) World {
	return World{R: w.R, M: guarded(w.M, spareCell), Ports: guarded(w.Ports, spareByte)}
}

// checkGuard fails unless a guarded world, and what stands behind its lists, is what it was.
func checkGuard(t *testing.T, what string, g, was World) {
	t.Helper()
	if g.R != was.R || !intact(g.M, was.M, spareCell) || !intact(g.Ports, was.Ports, spareByte) {
		t.Errorf("%s: an argument, or what stands behind it, was changed", what)
	}
}

// row is a step: how its registers differ from base, its number and vector, its memory and ports; and its cycles but for those within, its states, PC and R behind it, how the other registers differ from those ahead of it (Late, which each step but that of a halt clears, apart), what was stored, and the ports' bytes that are left.
type row struct {
	from   func(r *api.Regs)
	which  int
	vector uint8
	m      string
	ports  string
	cycles string
	states int
	pc     uint16
	r      uint8
	set    func(r *api.Regs)
	stored string
	left   string
}

// run holds Step against a row, for all lists that stand for its memory, and all numbers that stand for its number.
func (c row) run(t *testing.T) {
	t.Helper()
	r := base()
	if c.from != nil {
		c.from(&r)
	}
	want := World{R: r, M: new(image).written(c.m + ";" + c.stored).memory(), Ports: bytesOf(c.left)}
	want.R.PC, want.R.R, want.R.Late = c.pc, c.r, false
	if c.set != nil {
		c.set(&want.R)
	}
	numbers := []int{c.which}
	if c.which == 0 {
		numbers = neither
	}
	for k, l := range forms(memoryOf(c.m)) {
		for _, which := range numbers {
			what := fmt.Sprintf("%d, %02x of %s (list %d)", which, c.vector, c.m, k)
			w := World{R: r, M: l, Ports: bytesOf(c.ports)}
			g := guard(w)
			got, cycles, states := Step(g, which, c.vector)
			checkGuard(t, what, g, w)
			checkWorld(t, what, got, want)
			if tale(cycles) != c.cycles || states != c.states {
				t.Errorf("%s: %s in %d states, want %s in %d", what, tale(cycles), states, c.cycles, c.states)
			}
		}
	}
}

func runAll(t *testing.T, rows []row) {
	t.Helper()
	for _, c := range rows {
		c.run(t)
	}
}
