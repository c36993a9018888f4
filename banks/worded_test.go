package banks

import (
	"math"
	"slices"
	"strconv"
	"testing"

	"charabanc/api"
)

// This file reads the chapter a second time, sentence by sentence, and holds the package against that.

// wordedCheck is P19.1.
func wordedCheck(s Store) api.Errno {
	rising := true
	for i, p := range s.Ram {
		if i > 0 && s.Ram[i-1].At >= p.At {
			rising = false
		}
		if p.At < 0 || p.Data == 0 {
			rising = false
		}
		if s.Banks >= 1 && s.Banks <= 8 && p.At > 65535+16384*s.Banks {
			rising = false
		}
	}
	if len(s.Rom) <= 32768 && 1 <= s.Banks && s.Banks <= 8 && 0 <= s.Bank && s.Bank <= s.Banks-1 && rising {
		return api.OK
	}
	return api.ErrMap
}

// wordedPlace is the RAM place of an address.
func wordedPlace(s Store, addr uint16) int {
	if addr >= 32768 && addr <= 49151 {
		return 65536 + 16384*s.Bank + (int(addr) - 32768)
	}
	return int(addr)
}

// wordedWhere is Where of P19.2.
func wordedWhere(s Store, addr uint16) (int, bool) {
	if int(addr) < len(s.Rom) {
		return 0, false
	}
	return wordedPlace(s, addr), true
}

// wordedRead is Read of P19.2.
func wordedRead(s Store, addr uint16) uint8 {
	if int(addr) < len(s.Rom) {
		return s.Rom[addr]
	}
	for _, p := range s.Ram {
		if p.At == wordedPlace(s, addr) {
			return p.Data
		}
	}
	return 0
}

// wordedStore is how P19.2 stores a byte at a place.
func wordedStore(s Store, place int, b uint8) Store {
	ram := slices.DeleteFunc(slices.Clone(s.Ram), func(p Spot) bool { return p.At == place })
	if b != 0 {
		i := slices.IndexFunc(ram, func(p Spot) bool { return p.At > place })
		if i < 0 {
			i = len(ram)
		}
		ram = slices.Insert(ram, i, Spot{At: place, Data: b})
	}
	s.Ram = ram
	return s
}

// wordedWrite is Write of P19.2.
func wordedWrite(s Store, addr uint16, b uint8) Store {
	if int(addr) < len(s.Rom) {
		return s
	}
	return wordedStore(s, wordedPlace(s, addr), b)
}

// wordedSelect is Select of P19.3.
func wordedSelect(s Store, bank uint8) Store {
	if s.Banks < 1 {
		return s
	}
	s.Bank = int(bank) - int(bank)/s.Banks*s.Banks
	return s
}

// wordedLoad is Load of P19.3.
func wordedLoad(s Store, at int, b []uint8) Store {
	for _, v := range b {
		s = wordedStore(s, at, v)
		at++
	}
	return s
}

// Lengths of ROM: the edges of what may be, of the window, and of the addresses.
var lengths = []int{0, 0, 0, 1, 2, 255, 32767, 32768, 32769, 40000, 49151, 49152, 49153, 65535, 65536, 65537, 70000}

// Places at which a Spot may stand, sound or not.
var places = []int{
	math.MinInt, math.MinInt + 1, math.MinInt + 2, -65537, -16384, -2, -1, 0, 1, 2, 3, 4, 255, 32767, 32768, 32769, 49151, 49152, 65534, 65535,
	65536, 65537, 81919, 81920, 81921, 98303, 98304, 196607, 196608, 196609, math.MaxInt - 3, math.MaxInt - 2, math.MaxInt - 1, math.MaxInt,
}

// anyRam is RAM in any order, with any places, some of them near each other.
func anyRam(c *chance, n int) []Spot {
	var ram []Spot
	for range n {
		at := one(c, places)
		if c.below(3) == 0 {
			at = c.below(9) - 4 + one(c, []int{0, 65536, 81920, math.MaxInt, wordedPlace(Store{Bank: one(c, numbers)}, 32768+uint16(c.below(16384)))})
		}
		ram = append(ram, Spot{At: at, Data: uint8(c.below(5) * c.below(60))})
	}
	return ram
}

// soundRam is RAM that may be with so many banks.
func soundRam(c *chance, n, banks int) []Spot {
	var ram []Spot
	for range n {
		at := c.below(65536 + 16384*banks)
		if c.below(2) == 0 {
			at = one(c, places)
		}
		if at < 0 || at >= 65536+16384*banks {
			continue
		}
		ram = append(ram, Spot{At: at, Data: uint8(1 + c.below(255))})
	}
	slices.SortFunc(ram, func(a, b Spot) int { return a.At - b.At })
	return slices.CompactFunc(ram, func(a, b Spot) bool { return a.At == b.At })
}

// anyStore is a memory that mostly may not be.
func anyStore(c *chance) Store {
	return Store{Rom: rom(one(c, lengths)), Banks: one(c, numbers), Bank: one(c, numbers), Ram: anyRam(c, c.below(14))}
}

// soundStore is a memory that may be.
func soundStore(c *chance) Store {
	n := 1 + c.below(8)
	return Store{Rom: rom(one(c, []int{0, 1, 2, 300, 32767, 32768})), Banks: n, Bank: c.below(n), Ram: soundRam(c, c.below(14), n)}
}

// nearby is an address that is likely to lead to a Spot, or to an edge.
func nearby(c *chance, s Store) uint16 {
	switch c.below(4) {
	case 0:
		return one(c, edges)
	case 1:
		return uint16(len(s.Rom) - 2 + c.below(4))
	case 2:
		return uint16(c.below(65536))
	}
	if len(s.Ram) == 0 {
		return 40000
	}
	at := one(c, s.Ram).At
	if c.below(2) == 0 {
		return uint16(at + c.below(3) - 1)
	}
	return uint16(32768 + (at&16383+c.below(3)-1)&16383)
}

// loads is bytes for Load, among them many of 0.
func loads(c *chance) []uint8 {
	b := make([]uint8, c.below(7))
	for i := range b {
		b[i] = uint8(c.below(3) * c.below(86))
	}
	return b
}

// compare holds all functions against the words, on one memory.
func compare(t *testing.T, what string, c *chance, s Store) {
	t.Helper()
	if got, want := Check(s), wordedCheck(s); got != want {
		t.Fatalf("%s: Check is %v, want %v: bank %d of %d, %d bytes of ROM, %v", what, got, want, s.Bank, s.Banks, len(s.Rom), s.Ram)
	}
	for range 12 {
		addr, b := nearby(c, s), uint8(c.below(2)*c.below(256))
		at, ram := Where(s, addr)
		if wantAt, wantRam := wordedWhere(s, addr); at != wantAt || ram != wantRam {
			t.Fatalf("%s: Where of %d is %d, %v, want %d, %v", what, addr, at, ram, wantAt, wantRam)
		}
		if got, want := Read(s, addr), wordedRead(s, addr); got != want {
			t.Fatalf("%s: Read of %d is %d, want %d", what, addr, got, want)
		}
		same(t, what+": Write", Write(s, addr, b), wordedWrite(s, addr, b))
		same(t, what+": Select", Select(s, b), wordedSelect(s, b))
		bytes, from := loads(c), one(c, places)
		if len(s.Ram) > 0 && c.below(2) == 0 {
			from = one(c, s.Ram).At - c.below(4)
		}
		same(t, what+": Load", Load(s, from, bytes), wordedLoad(s, from, bytes))
	}
}

func TestWordedAnyMemory(t *testing.T) {
	c := chance(19)
	for i := range 3000 {
		compare(t, "any memory "+strconv.Itoa(i), &c, anyStore(&c))
	}
}

func TestWordedSoundMemory(t *testing.T) {
	c := chance(91)
	for i := range 1500 {
		s := soundStore(&c)
		if Check(s) != api.OK {
			t.Fatalf("memory %d: Check doesn't let it be", i)
		}
		compare(t, "memory "+strconv.Itoa(i), &c, s)
	}
}

func TestWordedNearlySoundMemory(t *testing.T) {
	c := chance(119)
	let := 0
	for i := range 4000 {
		s := soundStore(&c)
		switch c.below(4) {
		case 0:
			s.Bank = one(&c, numbers)
		case 1:
			s.Banks = one(&c, numbers)
		case 2:
			s.Rom = rom(one(&c, lengths))
		case 3:
			if len(s.Ram) > 0 {
				s.Ram[c.below(len(s.Ram))] = one(&c, anyRam(&c, 1))
			}
		}
		if Check(s) == api.OK {
			let++
		}
		compare(t, "nearly a memory "+strconv.Itoa(i), &c, s)
	}
	if let < 100 || let > 3900 {
		t.Errorf("%d of the memories may be: too few, or too many, to tell much", let)
	}
}

func TestWordedRunsOfWrites(t *testing.T) {
	c := chance(7)
	for i := range 60 {
		s := anyStore(&c)
		if i%2 == 0 {
			s = soundStore(&c)
		}
		want := s
		for range 80 {
			switch addr, b := nearby(&c, s), uint8(c.below(3)*c.below(128)); c.below(6) {
			case 0:
				s, want = Select(s, b), wordedSelect(want, b)
			case 1:
				l, from := loads(&c), one(&c, places)
				s, want = Load(s, from, l), wordedLoad(want, from, l)
			default:
				s, want = Write(s, addr, b), wordedWrite(want, addr, b)
			}
			same(t, "run "+strconv.Itoa(i), s, want)
		}
	}
}

func TestWordedLongLoads(t *testing.T) {
	c := chance(3)
	for i := range 40 {
		s := anyStore(&c)
		if i%2 == 0 {
			s = soundStore(&c)
		}
		s.Ram = append(s.Ram, soundRam(&c, 200, 8)...)
		b := make([]uint8, 1+c.below(700))
		for k := range b {
			b[k] = uint8(c.below(2) * c.below(256))
		}
		from := one(&c, places) - c.below(len(b))
		same(t, "long load "+strconv.Itoa(i), Load(s, from, b), wordedLoad(s, from, b))
	}
}
