package cells

import (
	"slices"
	"testing"

	"charabanc/api"
)

// image is a memory byte by byte.
type image [65536]uint8

// imageOf is the image of any cells, by the document's words: the last cell of an address counts.
func imageOf(l []api.Cell) *image {
	var m image
	for _, c := range l {
		m[c.Addr] = c.Data
	}
	return &m
}

// memory is the cells of an image.
func (m *image) memory() []api.Cell {
	var l []api.Cell
	for at, b := range m {
		if b != 0 {
			l = append(l, api.Cell{Addr: uint16(at), Data: b})
		}
	}
	return l
}

// differing is the cells in which another image differs from one.
func (m *image) differing(other *image) []api.Cell {
	var l []api.Cell
	for at, b := range other {
		if b != m[at] {
			l = append(l, api.Cell{Addr: uint16(at), Data: b})
		}
	}
	return l
}

// spread is n cells at addresses that go all round, a step at a time, with bytes that come from 0 to mod - 1.
func spread(n, from, step, mod int) []api.Cell {
	var l []api.Cell
	for i := range n {
		l = append(l, api.Cell{Addr: uint16((from + i*step) % 65536), Data: uint8((i*i + 7*i + 3) % mod)})
	}
	return l
}

// memories is lists that are memories.
func memories() [][]api.Cell {
	return [][]api.Cell{
		nil,
		{},
		{{Addr: 0, Data: 1}},
		{{Addr: 65535, Data: 255}},
		{{Addr: 0, Data: 255}, {Addr: 65535, Data: 1}},
		{{Addr: 0, Data: 1}, {Addr: 1, Data: 1}, {Addr: 2, Data: 1}},
		{{Addr: 2, Data: 3}, {Addr: 9, Data: 4}},
		{{Addr: 2, Data: 3}, {Addr: 4, Data: 5}},
		{{Addr: 255, Data: 7}, {Addr: 256, Data: 8}, {Addr: 257, Data: 9}, {Addr: 32767, Data: 128}, {Addr: 32768, Data: 127}},
		{{Addr: 65533, Data: 3}, {Addr: 65534, Data: 2}, {Addr: 65535, Data: 1}},
		imageOf(spread(300, 5, 211, 256)).memory(),
	}
}

// mixtures is lists that are no memories.
func mixtures() [][]api.Cell {
	return [][]api.Cell{
		// Data of 0.
		{{Addr: 0, Data: 0}},
		{{Addr: 65535, Data: 0}},
		{{Addr: 1, Data: 1}, {Addr: 2, Data: 0}},
		{{Addr: 1, Data: 0}, {Addr: 2, Data: 1}},
		{{Addr: 1, Data: 1}, {Addr: 2, Data: 0}, {Addr: 3, Data: 1}},
		// Addresses that don't increase.
		{{Addr: 2, Data: 1}, {Addr: 1, Data: 2}},
		{{Addr: 1, Data: 1}, {Addr: 0, Data: 2}},
		{{Addr: 65535, Data: 1}, {Addr: 0, Data: 2}},
		{{Addr: 65535, Data: 1}, {Addr: 65534, Data: 2}},
		{{Addr: 256, Data: 1}, {Addr: 255, Data: 2}},
		{{Addr: 32768, Data: 1}, {Addr: 32767, Data: 2}},
		{{Addr: 1, Data: 1}, {Addr: 3, Data: 3}, {Addr: 2, Data: 2}},
		{{Addr: 9, Data: 1}, {Addr: 2, Data: 3}, {Addr: 9, Data: 4}, {Addr: 5, Data: 1}, {Addr: 5, Data: 0}},
		// An address twice.
		{{Addr: 1, Data: 2}, {Addr: 1, Data: 3}},
		{{Addr: 1, Data: 2}, {Addr: 1, Data: 2}},
		{{Addr: 0, Data: 2}, {Addr: 0, Data: 3}},
		{{Addr: 65535, Data: 2}, {Addr: 65535, Data: 3}},
		{{Addr: 1, Data: 2}, {Addr: 2, Data: 2}, {Addr: 1, Data: 3}},
		{{Addr: 1, Data: 2}, {Addr: 1, Data: 0}},
		{{Addr: 1, Data: 0}, {Addr: 1, Data: 2}},
		// An address three times, with 0 last, first, between the others, and everywhere.
		{{Addr: 7, Data: 1}, {Addr: 7, Data: 2}, {Addr: 7, Data: 0}},
		{{Addr: 7, Data: 0}, {Addr: 7, Data: 1}, {Addr: 7, Data: 2}},
		{{Addr: 7, Data: 1}, {Addr: 7, Data: 0}, {Addr: 7, Data: 2}},
		{{Addr: 7, Data: 0}, {Addr: 7, Data: 0}, {Addr: 7, Data: 0}},
		{{Addr: 7, Data: 1}, {Addr: 8, Data: 5}, {Addr: 7, Data: 2}, {Addr: 6, Data: 6}, {Addr: 7, Data: 0}},
		{{Addr: 7, Data: 0}, {Addr: 8, Data: 5}, {Addr: 7, Data: 1}, {Addr: 6, Data: 6}, {Addr: 7, Data: 2}},
		// Many.
		spread(400, 65535, 65521, 3),
	}
}

// great is lists of many cells: two memories, the second one without a byte of 0, and two that are none.
func great() [][]api.Cell {
	return [][]api.Cell{
		imageOf(spread(5000, 0, 1, 250)).memory(),
		full(),
		spread(3000, 17, 32771, 200),
		spread(70000, 1, 65535, 256),
	}
}

// full is a memory that has all cells.
func full() []api.Cell {
	var l []api.Cell
	for at := range 65536 {
		l = append(l, api.Cell{Addr: uint16(at), Data: uint8(at%255 + 1)})
	}
	return l
}

// lists is memories and mixtures.
func lists() [][]api.Cell { return append(memories(), mixtures()...) }

// Addresses at the edges, and where the lists above have cells, and beside them.
var places = []uint16{0, 1, 2, 3, 4, 5, 6, 7, 8, 9, 10, 255, 256, 257, 0x1234, 32767, 32768, 65533, 65534, 65535}

// spare is what stands in a list behind its end.
var spare = api.Cell{Addr: 0x5aa5, Data: 0xc7}

// guarded is a copy of a list, with spare cells behind its end.
func guarded(l []api.Cell) []api.Cell {
	whole := append(slices.Clone(l), spare, spare, spare, spare)
	return whole[:len(l)]
}

// intact fails if a guarded list, or what stands behind it, isn't what it was.
func intact(t *testing.T, what string, l, was []api.Cell) {
	t.Helper()
	behind := l[len(l) : len(l)+4]
	if !slices.Equal(l, was) || !slices.Equal(behind, []api.Cell{spare, spare, spare, spare}) {
		t.Fatalf("%s: an argument, or what stands behind it, was changed", what)
	}
}

// same fails if a list isn't the one that is wanted.
func same(t *testing.T, what string, got, want []api.Cell) {
	t.Helper()
	if slices.Equal(got, want) {
		return
	}
	if len(got)+len(want) > 40 {
		t.Fatalf("%s: %d cells, want %d; or they differ", what, len(got), len(want))
	}
	t.Fatalf("%s: %v, want %v", what, got, want)
}

// isMemory fails unless a list is a memory, by the document's words.
func isMemory(t *testing.T, what string, l []api.Cell) {
	t.Helper()
	for i, c := range l {
		if c.Data == 0 {
			t.Fatalf("%s: cell %d is 0", what, i)
		}
	}
	inOrder(t, what, l)
}

// inOrder fails unless the addresses increase.
func inOrder(t *testing.T, what string, l []api.Cell) {
	t.Helper()
	for i := range len(l) - 1 {
		if l[i].Addr >= l[i+1].Addr {
			t.Fatalf("%s: address %d stands ahead of %d", what, l[i].Addr, l[i+1].Addr)
		}
	}
}
