// Package bits is layer 1: bytes and words, bit by bit.
package bits

import "iter"

const size = 8 // bits of a byte

// Lo is a word's lower byte.
func Lo(w uint16) uint8 { return uint8(w) }

// Hi is a word's higher byte.
func Hi(w uint16) uint8 { return uint8(w >> size) }

// Word is a word of two bytes.
func Word(hi, lo uint8) uint16 { return uint16(hi)<<size | uint16(lo) }

// Is tells whether a bit is set; a bit that a byte does not have is not.
func Is(b uint8, n int) bool { return has(n) && b&(1<<n) != 0 }

// With is a byte in which a bit is set, or isn't; without that bit it is the byte itself.
func With(b uint8, n int, on bool) uint8 {
	if !has(n) {
		return b
	}
	if on {
		return b | 1<<n
	}
	return b &^ (1 << n)
}

// Even tells whether an even number of bits is set.
func Even(b uint8) bool {
	even := true
	for range each(b) {
		even = !even
	}
	return even
}

// Signed is a byte as a number from -128 on.
func Signed(b uint8) int { return int(int8(b)) }

// Turn is a byte, turned to the left by so many bits; to the right if by is below 0.
func Turn(b uint8, by int) uint8 {
	// A mask, since % would answer a negative rest for a by below 0.
	left := by & (size - 1)
	var turned uint8
	for n := range each(b) {
		turned = With(turned, (n+left)%size, true)
	}
	return turned
}

// First is the lowest bit that is set; below 0: none.
func First(b uint8) int {
	for n := range each(b) {
		return n
	}
	return -1
}

// has tells whether a byte has a bit of that number. It is asked ahead of every shift, which would panic below 0.
func has(n int) bool { return n >= 0 && n < size }

// each yields the numbers of the bits that are set, rising.
func each(b uint8) iter.Seq[int] {
	return func(yield func(int) bool) {
		for n := range size {
			if Is(b, n) && !yield(n) {
				return
			}
		}
	}
}
