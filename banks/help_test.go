package banks

import (
	"bytes"
	"math"
	"slices"
	"testing"
)

// Addresses at the edges of the window, and of all.
var edges = []uint16{0, 1, 2, 255, 256, 16383, 16384, 32766, 32767, 32768, 32769, 49150, 49151, 49152, 49153, 65534, 65535}

// Numbers that a Bank or Banks may be given, sound or not.
var numbers = []int{
	math.MinInt, math.MinInt + 1, math.MinInt / 16384, -65536, -5, -4, -3, -2, -1, 0, 1, 2, 3, 7, 8, 9, 15, 255, 256, 257, 65536,
	math.MaxInt / 16384, math.MaxInt/16384 + 1, 1 << 50, 1<<50 - 4, 1<<50 - 1, math.MaxInt - 1, math.MaxInt,
}

// rom is n bytes of which none is 0.
func rom(n int) []uint8 {
	b := make([]uint8, n)
	for i := range b {
		b[i] = uint8(i%251 + 1)
	}
	return b
}

// spots is RAM of places and bytes, in turn.
func spots(l ...int) []Spot {
	var ram []Spot
	for i := 0; i+1 < len(l); i += 2 {
		ram = append(ram, Spot{At: l[i], Data: uint8(l[i+1])})
	}
	return ram
}

// same fails if a memory isn't the one that is wanted.
func same(t *testing.T, what string, got, want Store) {
	t.Helper()
	if got.Banks != want.Banks || got.Bank != want.Bank {
		t.Fatalf("%s: bank %d of %d, want %d of %d", what, got.Bank, got.Banks, want.Bank, want.Banks)
	}
	if !bytes.Equal(got.Rom, want.Rom) {
		t.Fatalf("%s: the ROM (%d bytes) isn't the one that is wanted (%d bytes)", what, len(got.Rom), len(want.Rom))
	}
	if slices.Equal(got.Ram, want.Ram) {
		return
	}
	if len(got.Ram)+len(want.Ram) > 60 {
		t.Fatalf("%s: %d spots, want %d; or they differ", what, len(got.Ram), len(want.Ram))
	}
	t.Fatalf("%s: RAM %v, want %v", what, got.Ram, want.Ram)
}

// What stands behind the end of a list in its memory.
var (
	spareSpot = Spot{At: 0x5aa5, Data: 0xc7}
	spareByte = uint8(0xc7)
)

// guardedList is a copy of a list, with four spare elements behind its end.
func guardedList[E any](l []E, spare E) []E {
	whole := append(slices.Clone(l), spare, spare, spare, spare)
	return whole[:len(l)]
}

// guarded is a copy of a memory, with spare elements behind the ends of its lists.
func guarded(s Store) Store {
	s.Rom = guardedList(s.Rom, spareByte)
	s.Ram = guardedList(s.Ram, spareSpot)
	return s
}

// untouched tells whether what stands behind a guarded list is what it was.
func untouched[E comparable](l []E, spare E) bool {
	return slices.Equal(l[len(l):len(l)+4], []E{spare, spare, spare, spare})
}

// intact fails if a guarded memory, or what stands behind its lists, isn't what it was.
func intact(t *testing.T, what string, s, was Store) {
	t.Helper()
	same(t, what+": an argument", s, was)
	if !untouched(s.Rom, spareByte) || !untouched(s.Ram, spareSpot) {
		t.Fatalf("%s: what stands behind an argument was changed", what)
	}
}

// mess changes all of a memory's lists, up to their capacity.
func mess(s Store) {
	messList(s.Rom, 0x3c)
	messList(s.Ram, Spot{At: -77, Data: 0x3c})
}

// messList changes all of a list, up to its capacity.
func messList[E any](l []E, with E) {
	l = l[:cap(l)]
	for i := range l {
		l[i] = with
	}
}

// chance is numbers that look like any, and are the same ones each time.
type chance uint64

// below is a number from 0 to n - 1.
func (c *chance) below(n int) int {
	*c = *c*6364136223846793005 + 1442695040888963407
	return int(uint64(*c>>33) % uint64(n))
}

// one is an element of a list.
func one[E any](c *chance, l []E) E { return l[c.below(len(l))] }
