package banks

import (
	"bytes"
	"math"
	"slices"
	"testing"

	"charabanc/api"
)

func TestP19_1CheckOfRom(t *testing.T) {
	for _, c := range []struct {
		n    int
		want api.Errno
	}{
		{0, api.OK}, {1, api.OK}, {32767, api.OK}, {32768, api.OK},
		{32769, api.ErrMap}, {49152, api.ErrMap}, {65536, api.ErrMap}, {65537, api.ErrMap}, {200000, api.ErrMap},
	} {
		if e := Check(Store{Rom: rom(c.n), Banks: 1}); e != c.want {
			t.Errorf("%d bytes: %v, want %v", c.n, e, c.want)
		}
	}
}

func TestP19_1CheckOfBanks(t *testing.T) {
	for _, n := range numbers {
		want := api.ErrMap
		if n == 1 || n == 2 || n == 3 || n == 7 || n == 8 {
			want = api.OK
		}
		if e := Check(Store{Banks: n}); e != want {
			t.Errorf("%d banks: %v, want %v", n, e, want)
		}
	}
	for n := 1; n <= 8; n++ {
		if Check(Store{Banks: n}) != api.OK {
			t.Errorf("%d banks may not be", n)
		}
	}
}

func TestP19_1CheckOfBank(t *testing.T) {
	for n := 1; n <= 8; n++ {
		for _, bank := range append([]int{4, 5, 6}, numbers...) {
			want := api.ErrMap
			if bank >= 0 && bank < n {
				want = api.OK
			}
			if e := Check(Store{Banks: n, Bank: bank}); e != want {
				t.Errorf("bank %d of %d: %v, want %v", bank, n, e, want)
			}
		}
	}
}

// A Bank that is below Banks doesn't help where Banks is too big, and one that is 0 not where it is too small.
func TestP19_1CheckOfBothAtOnce(t *testing.T) {
	for _, c := range [][2]int{{9, 8}, {9, 0}, {10, 9}, {0, 0}, {0, -1}, {-1, -2}, {math.MaxInt, 7}, {math.MaxInt, math.MaxInt - 1}, {math.MinInt, math.MinInt}} {
		if e := Check(Store{Banks: c[0], Bank: c[1]}); e != api.ErrMap {
			t.Errorf("bank %d of %d: %v", c[1], c[0], e)
		}
	}
}

func TestP19_1CheckOfRam(t *testing.T) {
	for i, ram := range [][]Spot{
		nil,
		{},
		spots(0, 1),
		spots(0, 255),
		spots(65535, 1),
		spots(65536, 1),
		spots(81919, 1),
		spots(0, 1, 1, 1, 2, 1),
		spots(0, 9, 81919, 9),
		spots(5, 4, 6, 3, 100, 2, 32768, 1, 70000, 255),
	} {
		if e := Check(Store{Banks: 1, Ram: ram}); e != api.OK {
			t.Errorf("RAM %d: %v", i, e)
		}
	}
	for i, ram := range [][]Spot{
		// Places that may not be.
		spots(-1, 1),
		spots(-1, 1, 0, 1),
		spots(math.MinInt, 1),
		spots(81920, 1),
		spots(0, 1, 81920, 1),
		spots(math.MaxInt, 1),
		spots(math.MinInt, 1, math.MaxInt, 1),
		// Data of 0.
		spots(0, 0),
		spots(81919, 0),
		spots(1, 0, 2, 1),
		spots(1, 1, 2, 0),
		spots(1, 1, 2, 0, 3, 1),
		// Equal and falling places.
		spots(0, 1, 0, 1),
		spots(0, 1, 0, 2),
		spots(81919, 1, 81919, 1),
		spots(1, 1, 0, 1),
		spots(1, 1, 3, 1, 3, 1),
		spots(1, 1, 3, 1, 2, 1),
		spots(1, 1, 3, 1, 2, 1, 4, 1),
		spots(5, 1, 7, 1, 9, 1, 6, 1),
		spots(81919, 1, 0, 1),
		spots(0, 1, -1, 1),
		spots(0, 1, math.MaxInt, 1, math.MinInt, 1),
	} {
		if e := Check(Store{Banks: 1, Ram: ram}); e != api.ErrMap {
			t.Errorf("RAM %d, which may not be: %v", i, e)
		}
	}
}

func TestP19_1CheckOfTheLastPlace(t *testing.T) {
	for n, last := range []int{0, 81919, 98303, 114687, 131071, 147455, 163839, 180223, 196607} {
		if n == 0 {
			continue
		}
		if e := Check(Store{Banks: n, Ram: spots(last, 1)}); e != api.OK {
			t.Errorf("%d banks, the last place: %v", n, e)
		}
		if e := Check(Store{Banks: n, Ram: spots(last-1, 1, last, 1)}); e != api.OK {
			t.Errorf("%d banks, the last two places: %v", n, e)
		}
		if e := Check(Store{Banks: n, Ram: spots(last+1, 1)}); e != api.ErrMap {
			t.Errorf("%d banks, the place behind the last one: %v", n, e)
		}
		if e := Check(Store{Banks: n, Bank: n - 1, Ram: spots(3, 1, last, 1, last+1, 1)}); e != api.ErrMap {
			t.Errorf("%d banks, the last place and the one behind it: %v", n, e)
		}
	}
}

// Places in ROM and in the window's own addresses may be: no address leads there, but Ram may list them.
func TestP19_1CheckOfPlacesThatAreNotSeen(t *testing.T) {
	s := Store{Rom: rom(32768), Banks: 3, Bank: 1, Ram: spots(0, 1, 32767, 1, 32768, 1, 49151, 1, 65536, 1, 114687, 1)}
	if e := Check(s); e != api.OK {
		t.Error(e)
	}
}

func TestP19_2Where(t *testing.T) {
	type row struct {
		addr uint16
		at   int
		ram  bool
	}
	for i, c := range []struct {
		s    Store
		rows []row
	}{
		{Store{Banks: 1}, []row{{0, 0, true}, {1, 1, true}, {32767, 32767, true}, {32768, 65536, true}, {32769, 65537, true}, {49151, 81919, true}, {49152, 49152, true}, {65535, 65535, true}}},
		{Store{Banks: 2, Bank: 1}, []row{{0, 0, true}, {32767, 32767, true}, {32768, 81920, true}, {49151, 98303, true}, {49152, 49152, true}, {65535, 65535, true}}},
		{Store{Banks: 8, Bank: 7}, []row{{32768, 180224, true}, {40000, 187456, true}, {49151, 196607, true}}},
		{Store{Rom: rom(1), Banks: 1}, []row{{0, 0, false}, {1, 1, true}, {2, 2, true}}},
		{Store{Rom: rom(32767), Banks: 1}, []row{{0, 0, false}, {32766, 0, false}, {32767, 32767, true}, {32768, 65536, true}}},
		{Store{Rom: rom(32768), Banks: 2, Bank: 1}, []row{{0, 0, false}, {32767, 0, false}, {32768, 81920, true}, {49151, 98303, true}, {49152, 49152, true}}},
		// ROM that reaches into the window, to its end, and beyond it.
		{Store{Rom: rom(32769), Banks: 2, Bank: 1}, []row{{32767, 0, false}, {32768, 0, false}, {32769, 81921, true}, {49151, 98303, true}}},
		{Store{Rom: rom(49152), Banks: 2}, []row{{32768, 0, false}, {49151, 0, false}, {49152, 49152, true}, {65535, 65535, true}}},
		{Store{Rom: rom(49153), Banks: 2}, []row{{49151, 0, false}, {49152, 0, false}, {49153, 49153, true}}},
		{Store{Rom: rom(65535), Banks: 1}, []row{{40000, 0, false}, {65534, 0, false}, {65535, 65535, true}}},
		{Store{Rom: rom(65536), Banks: 1}, []row{{0, 0, false}, {65535, 0, false}}},
		{Store{Rom: rom(70000), Banks: 1}, []row{{0, 0, false}, {4463, 0, false}, {65535, 0, false}}},
		// Banks plays no part, and Bank may be any number.
		{Store{}, []row{{0, 0, true}, {32768, 65536, true}, {65535, 65535, true}}},
		{Store{Banks: -3, Bank: 9}, []row{{32768, 212992, true}, {49152, 49152, true}}},
		{Store{Banks: 1, Bank: -1}, []row{{32767, 32767, true}, {32768, 49152, true}, {49151, 65535, true}}},
		{Store{Banks: 1, Bank: -4}, []row{{32768, 0, true}, {32770, 2, true}, {49151, 16383, true}}},
		{Store{Banks: 1, Bank: -5}, []row{{32768, -16384, true}, {49151, -1, true}}},
		// 16384 times these banks wraps around: 2^49 times is 2^63, which is the smallest number, and 2^50 times is 0.
		{Store{Banks: 1, Bank: 1 << 49}, []row{{32768, math.MinInt + 65536, true}, {49151, math.MinInt + 81919, true}}},
		{Store{Banks: 1, Bank: 1<<49 - 4}, []row{{32767, 32767, true}, {32768, math.MinInt, true}, {32769, math.MinInt + 1, true}}},
		{Store{Banks: 1, Bank: 1<<49 - 5}, []row{{32768, math.MaxInt - 16383, true}, {49151, math.MaxInt, true}}},
		{Store{Banks: 1, Bank: 1<<50 - 4}, []row{{32768, 0, true}, {49151, 16383, true}}},
		{Store{Banks: 1, Bank: math.MaxInt}, []row{{32768, 49152, true}, {49151, 65535, true}}},
		{Store{Banks: 1, Bank: math.MinInt}, []row{{32768, 65536, true}, {49151, 81919, true}}},
	} {
		for _, r := range c.rows {
			if at, ram := Where(c.s, r.addr); at != r.at || ram != r.ram {
				t.Errorf("memory %d: %d leads to %d, %v, want %d, %v", i, r.addr, at, ram, r.at, r.ram)
			}
		}
	}
}

func TestP19_2WhereOfEveryAddress(t *testing.T) {
	for _, s := range []Store{{Rom: rom(5000), Banks: 8, Bank: 3}, {Rom: rom(32768), Banks: 8}, {Rom: rom(40000), Banks: 2, Bank: 1}} {
		for a := range 65536 {
			at, ram := Where(s, uint16(a))
			if wantAt, wantRam := wordedWhere(s, uint16(a)); at != wantAt || ram != wantRam {
				t.Fatalf("%d bytes of ROM: %d leads to %d, %v", len(s.Rom), a, at, ram)
			}
		}
	}
}

func TestP19_2Read(t *testing.T) {
	s := Store{Rom: []uint8{7, 0, 9}, Banks: 2, Ram: spots(0, 1, 1, 2, 3, 3, 32767, 4, 32768, 5, 49151, 6, 49152, 7, 65535, 8, 65536, 9, 81919, 10, 81920, 11, 98303, 12)}
	for bank, rows := range [][][2]int{
		{{0, 7}, {1, 0}, {2, 9}, {3, 3}, {4, 0}, {32766, 0}, {32767, 4}, {32768, 9}, {32769, 0}, {49150, 0}, {49151, 10}, {49152, 7}, {49153, 0}, {65534, 0}, {65535, 8}},
		{{0, 7}, {1, 0}, {2, 9}, {3, 3}, {32767, 4}, {32768, 11}, {32769, 0}, {49151, 12}, {49152, 7}, {65535, 8}},
	} {
		s.Bank = bank
		for _, r := range rows {
			if b := Read(s, uint16(r[0])); int(b) != r[1] {
				t.Errorf("bank %d: %d at %d, want %d", bank, b, r[0], r[1])
			}
		}
	}
}

func TestP19_2ReadAtTheEndOfRom(t *testing.T) {
	for _, n := range []int{1, 2, 32767, 32768, 32769, 40000, 49151, 49152, 49153, 65535} {
		s := Store{Rom: rom(n), Banks: 1}
		at, _ := Where(s, uint16(n))
		s.Ram = spots(n-1, 253, at, 254)
		if b := Read(s, uint16(n-1)); b != s.Rom[n-1] {
			t.Errorf("%d bytes of ROM: the last one is %d, want %d", n, b, s.Rom[n-1])
		}
		if b := Read(s, uint16(n)); b != 254 {
			t.Errorf("%d bytes of ROM: behind it is %d", n, b)
		}
	}
	for _, n := range []int{65536, 65537, 70000} {
		s := Store{Rom: rom(n), Banks: 1, Ram: spots(0, 254, 65535, 254, 65536, 254)}
		for _, at := range edges {
			if b := Read(s, at); b != s.Rom[at] {
				t.Errorf("%d bytes of ROM: %d at %d, want %d", n, b, at, s.Rom[at])
			}
		}
	}
}

func TestP19_2ReadOfAnyRam(t *testing.T) {
	s := Store{Bank: -4, Ram: spots(9, 0, 5, 7, 5, 8, -1, 3, 9, 4, 2, 6, math.MaxInt, 1, 5, 9)}
	for _, c := range []struct {
		bank int
		addr uint16
		want uint8
	}{
		{0, 5, 7}, {0, 2, 6}, {0, 3, 0},
		// The first one counts, even if it is 0.
		{0, 9, 0},
		{-4, 32768 + 5, 7}, {-4, 32768 + 2, 6}, {-4, 32768 + 9, 0},
		{-5, 49151, 3}, {-5, 49150, 0},
		{1<<49 - 5, 49151, 1}, {1<<49 - 5, 49150, 0}, {1<<49 - 4, 32768, 0},
		{1<<50 - 4, 32773, 7}, {1<<50 - 5, 49151, 3},
	} {
		s.Bank = c.bank
		if b := Read(s, c.addr); b != c.want {
			t.Errorf("bank %d, %d: %d, want %d", c.bank, c.addr, b, c.want)
		}
	}
}

// written is what Write makes of RAM, in a memory without ROM.
type written struct {
	ram  []Spot
	addr uint16
	b    uint8
	want []Spot
}

func checkWritten(t *testing.T, s Store, rows []written) {
	t.Helper()
	for i, c := range rows {
		s.Ram = c.ram
		got, want := Write(s, c.addr, c.b), s
		want.Ram = c.want
		if got.Bank != want.Bank || got.Banks != want.Banks || !bytes.Equal(got.Rom, want.Rom) || !slices.Equal(got.Ram, want.Ram) {
			t.Errorf("row %d: %v, want %v", i, got, want)
		}
	}
}

func TestP19_2Write(t *testing.T) {
	few := spots(10, 1, 20, 2, 30, 3)
	checkWritten(t, Store{Banks: 1}, []written{
		// 0, where there is a Spot, and where there is none.
		{few, 10, 0, spots(20, 2, 30, 3)},
		{few, 20, 0, spots(10, 1, 30, 3)},
		{few, 30, 0, spots(10, 1, 20, 2)},
		{few, 9, 0, few},
		{few, 15, 0, few},
		{few, 31, 0, few},
		{nil, 0, 0, nil},
		{spots(10, 1), 10, 0, nil},
		// Another byte ahead of the first Spot, between two, behind the last one.
		{nil, 0, 5, spots(0, 5)},
		{few, 0, 5, spots(0, 5, 10, 1, 20, 2, 30, 3)},
		{few, 9, 5, spots(9, 5, 10, 1, 20, 2, 30, 3)},
		{few, 11, 5, spots(10, 1, 11, 5, 20, 2, 30, 3)},
		{few, 19, 5, spots(10, 1, 19, 5, 20, 2, 30, 3)},
		{few, 25, 5, spots(10, 1, 20, 2, 25, 5, 30, 3)},
		{few, 31, 5, spots(10, 1, 20, 2, 30, 3, 31, 5)},
		{few, 65535, 255, spots(10, 1, 20, 2, 30, 3, 65535, 255)},
		// In the place of one.
		{few, 10, 5, spots(10, 5, 20, 2, 30, 3)},
		{few, 20, 5, spots(10, 1, 20, 5, 30, 3)},
		{few, 30, 5, spots(10, 1, 20, 2, 30, 5)},
		{few, 20, 2, few},
		// In the window.
		{few, 32768, 5, spots(10, 1, 20, 2, 30, 3, 65536, 5)},
		{spots(40000, 1, 65535, 2, 65536, 3, 65537, 4), 32768, 5, spots(40000, 1, 65535, 2, 65536, 5, 65537, 4)},
		{spots(40000, 1, 65535, 2, 81919, 3), 49151, 0, spots(40000, 1, 65535, 2)},
		{spots(40000, 1, 65535, 2, 81919, 3), 49152, 6, spots(40000, 1, 49152, 6, 65535, 2, 81919, 3)},
	})
	checkWritten(t, Store{Rom: []uint8{1, 2}, Banks: 2, Bank: 1}, []written{
		{spots(65536, 3), 32768, 5, spots(65536, 3, 81920, 5)},
		{spots(65536, 3, 98303, 4), 49151, 0, spots(65536, 3)},
		{spots(81920, 3), 32767, 4, spots(32767, 4, 81920, 3)},
		// ROM.
		{nil, 0, 5, nil},
		{spots(1, 3), 1, 5, spots(1, 3)},
		{spots(1, 3), 1, 0, spots(1, 3)},
		{spots(1, 3), 2, 5, spots(1, 3, 2, 5)},
	})
}

func TestP19_2WriteToAnyRam(t *testing.T) {
	mixed := spots(9, 1, 5, 2, 5, 0, 9, 4, 2, 5, 5, 6)
	checkWritten(t, Store{Banks: -1}, []written{
		// All Spots with the place go, and the new one goes ahead of the first one with a greater place, wherever they were.
		{mixed, 5, 7, spots(5, 7, 9, 1, 9, 4, 2, 5)},
		{mixed, 5, 0, spots(9, 1, 9, 4, 2, 5)},
		{mixed, 9, 7, spots(5, 2, 5, 0, 2, 5, 5, 6, 9, 7)},
		{mixed, 9, 0, spots(5, 2, 5, 0, 2, 5, 5, 6)},
		{mixed, 2, 7, spots(2, 7, 9, 1, 5, 2, 5, 0, 9, 4, 5, 6)},
		{mixed, 7, 7, spots(7, 7, 9, 1, 5, 2, 5, 0, 9, 4, 2, 5, 5, 6)},
		{mixed, 7, 0, mixed},
		{mixed, 10, 7, append(slices.Clone(mixed), Spot{At: 10, Data: 7})},
		{spots(5, 1, 3, 1, 5, 2, 9, 1, 5, 3), 5, 7, spots(3, 1, 5, 7, 9, 1)},
		{spots(3, 1, 3, 2, 3, 3), 3, 7, spots(3, 7)},
		{spots(3, 1, 3, 2, 3, 3), 3, 0, nil},
		// A Spot of 0 stays a Spot until its place is written.
		{spots(1, 0, 3, 0), 2, 0, spots(1, 0, 3, 0)},
		{spots(1, 0, 3, 0), 3, 0, spots(1, 0)},
		{spots(-1, 1, math.MinInt, 2, math.MaxInt, 3), 0, 7, spots(-1, 1, math.MinInt, 2, 0, 7, math.MaxInt, 3)},
	})
}

func TestP19_2WriteInAnyBank(t *testing.T) {
	ram := spots(math.MinInt, 1, -16384, 2, -1, 3, 0, 4, 65535, 5, math.MaxInt, 6)
	for _, c := range []struct {
		bank int
		addr uint16
		want []Spot
	}{
		{-5, 32768, spots(math.MinInt, 1, -16384, 9, -1, 3, 0, 4, 65535, 5, math.MaxInt, 6)},
		{-5, 49151, spots(math.MinInt, 1, -16384, 2, -1, 9, 0, 4, 65535, 5, math.MaxInt, 6)},
		{-5, 49150, spots(math.MinInt, 1, -16384, 2, -2, 9, -1, 3, 0, 4, 65535, 5, math.MaxInt, 6)},
		{-4, 32768, spots(math.MinInt, 1, -16384, 2, -1, 3, 0, 9, 65535, 5, math.MaxInt, 6)},
		{math.MaxInt, 49151, spots(math.MinInt, 1, -16384, 2, -1, 3, 0, 4, 65535, 9, math.MaxInt, 6)},
		{1<<49 - 5, 49151, spots(math.MinInt, 1, -16384, 2, -1, 3, 0, 4, 65535, 5, math.MaxInt, 9)},
		{1<<49 - 5, 49150, spots(math.MinInt, 1, -16384, 2, -1, 3, 0, 4, 65535, 5, math.MaxInt-1, 9, math.MaxInt, 6)},
		{1<<49 - 4, 32768, spots(math.MinInt, 9, -16384, 2, -1, 3, 0, 4, 65535, 5, math.MaxInt, 6)},
		{1<<49 - 4, 32769, spots(math.MinInt, 1, math.MinInt+1, 9, -16384, 2, -1, 3, 0, 4, 65535, 5, math.MaxInt, 6)},
	} {
		s := Store{Rom: rom(3), Banks: 5, Bank: c.bank, Ram: ram}
		got := Write(s, c.addr, 9)
		if !slices.Equal(got.Ram, c.want) || got.Bank != c.bank || got.Banks != 5 || len(got.Rom) != 3 {
			t.Errorf("bank %d, %d: %v, want %v", c.bank, c.addr, got, c.want)
		}
	}
}

func TestP19_2WriteToRomThatReachesFar(t *testing.T) {
	for _, n := range []int{32767, 32768, 32769, 49151, 49152, 49153, 65535, 65536, 70000} {
		s := Store{Rom: rom(n), Banks: 2, Bank: 1, Ram: spots(n-1, 3, 70000, 4, 90000, 5)}
		for _, addr := range edges {
			if int(addr) < n {
				same(t, "ROM", Write(s, addr, 9), s)
				same(t, "ROM", Write(s, addr, 0), s)
				continue
			}
			at, _ := Where(s, addr)
			if got := Write(s, addr, 9); !slices.Contains(got.Ram, Spot{At: at, Data: 9}) || len(got.Rom) != n {
				t.Errorf("%d bytes of ROM: nothing was written at %d", n, addr)
			}
		}
	}
}

func TestP19_3Select(t *testing.T) {
	for _, c := range []struct{ banks, bank, want int }{
		{1, 0, 0}, {1, 1, 0}, {1, 255, 0},
		{2, 0, 0}, {2, 1, 1}, {2, 2, 0}, {2, 3, 1}, {2, 255, 1},
		{3, 0, 0}, {3, 1, 1}, {3, 2, 2}, {3, 3, 0}, {3, 4, 1}, {3, 255, 0}, {3, 254, 2},
		{7, 6, 6}, {7, 7, 0}, {7, 8, 1}, {7, 255, 3},
		{8, 7, 7}, {8, 8, 0}, {8, 9, 1}, {8, 255, 7},
		{9, 8, 8}, {9, 9, 0}, {100, 255, 55}, {255, 254, 254}, {255, 255, 0},
		{256, 255, 255}, {257, 255, 255}, {1000, 255, 255}, {math.MaxInt, 0, 0}, {math.MaxInt, 255, 255},
		// Banks below 1: the bank stays.
		{0, 0, 77}, {0, 5, 77}, {-1, 5, 77}, {-2, 5, 77}, {-256, 5, 77}, {math.MinInt, 5, 77}, {math.MinInt, 255, 77},
	} {
		s := Store{Rom: rom(4), Banks: c.banks, Bank: 77, Ram: spots(9, 1, 5, 2, 5, 0, -3, 4)}
		want := s
		want.Bank = c.want
		same(t, "Select", Select(s, uint8(c.bank)), want)
	}
}

func TestP19_3SelectOfEveryBank(t *testing.T) {
	for _, n := range numbers {
		for bank := range 256 {
			for _, was := range []int{-1, 0, 3, math.MaxInt} {
				s := Store{Banks: n, Bank: was}
				if got, want := Select(s, uint8(bank)), wordedSelect(s, uint8(bank)); got.Bank != want.Bank || got.Banks != n {
					t.Fatalf("%d banks, bank %d: %d, want %d", n, bank, got.Bank, want.Bank)
				}
			}
		}
	}
}

func TestP19_3Load(t *testing.T) {
	few := spots(10, 1, 20, 2, 30, 3)
	for i, c := range []struct {
		ram  []Spot
		at   int
		b    []uint8
		want []Spot
	}{
		{few, 15, nil, few},
		{few, 20, []uint8{}, few},
		{few, math.MinInt, nil, few},
		{few, -1, nil, few},
		{few, math.MaxInt, nil, few},
		{few, 20, []uint8{9}, spots(10, 1, 20, 9, 30, 3)},
		{few, 20, []uint8{0}, spots(10, 1, 30, 3)},
		{few, 21, []uint8{0}, few},
		{few, 9, []uint8{4, 5, 6}, spots(9, 4, 10, 5, 11, 6, 20, 2, 30, 3)},
		{few, 9, []uint8{4, 0, 6}, spots(9, 4, 11, 6, 20, 2, 30, 3)},
		{few, 9, make([]uint8, 30), nil},
		{few, 10, make([]uint8, 20), spots(30, 3)},
		{few, 11, make([]uint8, 20), spots(10, 1)},
		{few, 29, []uint8{4, 5, 6}, spots(10, 1, 20, 2, 29, 4, 30, 5, 31, 6)},
		{nil, 0, []uint8{1, 0, 2}, spots(0, 1, 2, 2)},
		// Places in ROM (here 0 to 99), below 0, in the window's addresses, and in the window of another bank (here bank 1 is shown).
		{few, 0, []uint8{7}, spots(0, 7, 10, 1, 20, 2, 30, 3)},
		{few, -2, []uint8{4, 5, 6}, spots(-2, 4, -1, 5, 0, 6, 10, 1, 20, 2, 30, 3)},
		{few, math.MinInt, []uint8{4, 5}, spots(math.MinInt, 4, math.MinInt+1, 5, 10, 1, 20, 2, 30, 3)},
		{few, 32767, []uint8{4, 5}, spots(10, 1, 20, 2, 30, 3, 32767, 4, 32768, 5)},
		{few, 65535, []uint8{4, 5}, spots(10, 1, 20, 2, 30, 3, 65535, 4, 65536, 5)},
		{few, 196607, []uint8{4, 5}, spots(10, 1, 20, 2, 30, 3, 196607, 4, 196608, 5)},
		// At the greatest number: the smallest one follows.
		{few, math.MaxInt, []uint8{4}, spots(10, 1, 20, 2, 30, 3, math.MaxInt, 4)},
		{few, math.MaxInt - 1, []uint8{4, 5}, spots(10, 1, 20, 2, 30, 3, math.MaxInt-1, 4, math.MaxInt, 5)},
		{few, math.MaxInt, []uint8{4, 5}, spots(math.MinInt, 5, 10, 1, 20, 2, 30, 3, math.MaxInt, 4)},
		{few, math.MaxInt - 1, []uint8{4, 5, 6, 7}, spots(math.MinInt, 6, math.MinInt+1, 7, 10, 1, 20, 2, 30, 3, math.MaxInt-1, 4, math.MaxInt, 5)},
		{few, math.MaxInt, []uint8{0, 0, 5}, spots(math.MinInt+1, 5, 10, 1, 20, 2, 30, 3)},
		{spots(math.MinInt, 1, 5, 2, math.MaxInt, 3), math.MaxInt, []uint8{0, 0}, spots(5, 2)},
		// One after the other: the Spot of 5 goes ahead of that of 6 before 6 is stored, and so ahead of the 2.
		{spots(6, 1, 2, 1, 9, 1), 5, []uint8{4, 7}, spots(5, 4, 2, 1, 6, 7, 9, 1)},
		{spots(6, 1, 2, 1, 9, 1), 5, []uint8{4, 0}, spots(5, 4, 2, 1, 9, 1)},
		{spots(9, 1, 5, 2, 5, 0, 9, 4, 2, 5, 5, 6), 4, []uint8{3, 7}, spots(4, 3, 5, 7, 9, 1, 9, 4, 2, 5)},
		{spots(9, 1, 5, 2), 8, []uint8{3, 7, 8}, spots(8, 3, 5, 2, 9, 7, 10, 8)},
	} {
		s := Store{Rom: rom(100), Banks: 2, Bank: 1, Ram: c.ram}
		got := Load(s, c.at, c.b)
		if !slices.Equal(got.Ram, c.want) || got.Bank != 1 || got.Banks != 2 || !bytes.Equal(got.Rom, s.Rom) {
			t.Errorf("row %d: %v, want %v", i, got.Ram, c.want)
		}
	}
}

func TestP19_3LoadOfAWholeMemory(t *testing.T) {
	b := make([]uint8, 65536+8*16384)
	var want []Spot
	for i := range b {
		b[i] = uint8(i * 7 % 256)
		if b[i] != 0 {
			want = append(want, Spot{At: i, Data: b[i]})
		}
	}
	s := Load(Store{Rom: rom(9), Banks: 8, Bank: 2}, 0, b)
	same(t, "a whole memory", s, Store{Rom: rom(9), Banks: 8, Bank: 2, Ram: want})
	if e := Check(s); e != api.OK {
		t.Error(e)
	}
	same(t, "the same once more", Load(s, 0, b), s)
	same(t, "all of it 0", Load(s, 0, make([]uint8, len(b))), Store{Rom: rom(9), Banks: 8, Bank: 2})
	if e := Check(Load(s, len(b), []uint8{1})); e != api.ErrMap {
		t.Errorf("a byte behind the last place: %v", e)
	}
}

// all is every byte that a memory has, bank by bank, as Read tells them.
func all(s Store) []uint8 {
	var b []uint8
	for bank := range s.Banks {
		seen := Select(s, uint8(bank))
		for a := range 65536 {
			if bank == 0 || a >= 32768 && a < 49152 {
				b = append(b, Read(seen, uint16(a)))
			}
		}
	}
	return b
}

// spotOf is the index of an address in what all tells.
func spotOf(addr uint16, bank int) int {
	if addr < 32768 || addr >= 49152 || bank == 0 {
		return int(addr)
	}
	return 65536 + (bank-1)*16384 + int(addr) - 32768
}

func TestP19_4NothingElseChanges(t *testing.T) {
	c := chance(5)
	s := Store{Rom: rom(300), Banks: 3, Bank: 1, Ram: soundRam(&c, 25, 3)}
	is := all(s)
	for i := range 60 {
		s = Select(s, uint8(c.below(256)))
		addr, b := nearby(&c, s), uint8(c.below(3)*c.below(128))
		if i%12 == 0 {
			addr = one(&c, edges)
		}
		s = Write(s, addr, b)
		if addr >= 300 {
			is[spotOf(addr, s.Bank)] = b
			if Read(s, addr) != b {
				t.Fatalf("%d was written at %d, and %d is read", b, addr, Read(s, addr))
			}
		}
		if got := all(s); !bytes.Equal(got, is) {
			t.Fatalf("write %d, of %d at %d, bank %d: the memory isn't what it was but for that byte", i, b, addr, s.Bank)
		}
		if e := Check(s); e != api.OK {
			t.Fatalf("write %d: %v", i, e)
		}
	}
}

func TestP19_4BanksAreApart(t *testing.T) {
	for n := 1; n <= 8; n++ {
		s := Store{Rom: rom(32768), Banks: n}
		for _, addr := range []uint16{32768, 32769, 40000, 49150, 49151} {
			for bank := range n {
				s = Write(Select(s, uint8(bank)), addr, uint8(16*bank+int(addr%16)+1))
			}
			for bank := range n {
				if b := Read(Select(s, uint8(bank)), addr); int(b) != 16*bank+int(addr%16)+1 {
					t.Errorf("%d banks: %d at %d in bank %d", n, b, addr, bank)
				}
				if b := Read(Select(s, uint8(bank+n)), addr); int(b) != 16*bank+int(addr%16)+1 {
					t.Errorf("%d banks: %d at %d in bank %d, which is %d", n, b, addr, bank+n, bank)
				}
			}
		}
		// What is outside the window is seen through every bank.
		s = Write(s, 49152, 99)
		for bank := range n {
			if b := Read(Select(s, uint8(bank)), 49152); b != 99 {
				t.Errorf("%d banks: %d at 49152 in bank %d", n, b, bank)
			}
		}
	}
}

func TestP19_4ReadingBackInAnyMemory(t *testing.T) {
	c := chance(11)
	for i := range 1500 {
		s := anyStore(&c)
		addr, b := nearby(&c, s), uint8(c.below(256))
		got := Write(s, addr, b)
		want := b
		if int(addr) < len(s.Rom) {
			want = s.Rom[addr]
		}
		if Read(got, addr) != want {
			t.Fatalf("memory %d: %d was written at %d, and %d is read, want %d", i, b, addr, Read(got, addr), want)
		}
		for range 20 {
			other := nearby(&c, s)
			at, _ := Where(s, addr)
			if elsewhere, ram := Where(s, other); ram && elsewhere == at {
				continue
			}
			if Read(got, other) != Read(s, other) {
				t.Fatalf("memory %d: a write at %d changed what is read at %d", i, addr, other)
			}
		}
	}
}

func TestExamples(t *testing.T) {
	if at, ram := Where(Store{Banks: 2, Bank: 1}, 32768); at != 81920 || !ram {
		t.Error(at, ram)
	}
}
