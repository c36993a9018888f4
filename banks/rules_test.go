package banks

import (
	"math"
	"strconv"
	"testing"

	"charabanc/api"
)

// answers is what each function that yields a memory answers, in all its ways.
func answers(s Store, b []uint8) []Store {
	return []Store{
		Write(s, 0, 0),
		Write(s, 0, 9),
		Write(s, 5, 0),
		Write(s, 5, 9),
		Write(s, 40000, 9),
		Write(s, 65535, 0),
		Write(s, 65535, 9),
		Select(s, 0),
		Select(s, 3),
		Load(s, 5, nil),
		Load(s, 5, []uint8{}),
		Load(s, 3, b),
		Load(s, -1, b),
		Load(s, math.MaxInt, b),
		Load(s, math.MinInt, nil),
	}
}

// stores is memories, some of which may not be.
func stores() []Store {
	return []Store{
		{},
		{Rom: []uint8{}, Ram: []Spot{}},
		{Rom: rom(3), Banks: 1},
		{Banks: 2, Bank: 1, Ram: spots(5, 1)},
		{Rom: rom(3), Banks: 4, Bank: 1, Ram: spots(1, 1, 5, 2, 65535, 3, 65536, 4, 81920, 5)},
		{Rom: rom(32768), Banks: 8, Bank: 7, Ram: spots(180224+7232, 5)},
		{Rom: rom(65536), Banks: -1, Bank: -4, Ram: spots(5, 0, 5, 1, 3, 2, math.MaxInt, 3, math.MinInt, 4, 5, 5)},
		{Rom: rom(70000), Banks: math.MaxInt, Bank: math.MinInt, Ram: spots(9, 1, 7, 2, 5, 3)},
		{Banks: math.MinInt, Bank: math.MaxInt, Ram: spots(5, 0)},
	}
}

func TestNoArgumentIsChanged(t *testing.T) {
	for i, s := range stores() {
		g, b := guarded(s), guardedList([]uint8{1, 0, 2}, spareByte)
		answers(g, b)
		Check(g)
		for _, addr := range edges {
			Where(g, addr)
			Read(g, addr)
		}
		what := "memory " + strconv.Itoa(i)
		intact(t, what, g, s)
		if b[0] != 1 || b[1] != 0 || b[2] != 2 || !untouched(b, spareByte) {
			t.Fatalf("%s: the bytes that Load is given, or what stands behind them, were changed", what)
		}
	}
}

func TestAnswersShareNothingWithArguments(t *testing.T) {
	for i, s := range stores() {
		what := "memory " + strconv.Itoa(i)
		g, b := guarded(s), []uint8{1, 0, 2}
		for _, a := range answers(g, b) {
			mess(a)
		}
		intact(t, what, g, s)
		// And the other way round.
		kept, want := answers(g, b), answers(s, b)
		mess(g)
		messList(b, 0x3c)
		for k := range kept {
			same(t, what, kept[k], want[k])
		}
	}
}

func TestAnswersShareNothingWithEachOther(t *testing.T) {
	for i, s := range stores() {
		b := []uint8{1, 0, 2}
		first, second, want := answers(s, b), answers(s, b), answers(s, b)
		for k := range first {
			mess(first[k])
			for j := range second {
				same(t, "memory "+strconv.Itoa(i), second[j], want[j])
			}
		}
	}
}

func TestWhatIsAppendedGoesElsewhere(t *testing.T) {
	for i, s := range stores() {
		for k, a := range answers(guarded(s), []uint8{1, 0, 2}) {
			if cap(a.Rom) != len(a.Rom) || cap(a.Ram) != len(a.Ram) {
				t.Fatalf("memory %d, answer %d: capacities of %d and %d for %d bytes and %d spots", i, k, cap(a.Rom), cap(a.Ram), len(a.Rom), len(a.Ram))
			}
		}
	}
}

func TestAnswersHangOnArgumentsAlone(t *testing.T) {
	for _, s := range stores() {
		want := answers(s, []uint8{1, 0, 2})
		for range 20 {
			for k, a := range answers(guarded(s), []uint8{1, 0, 2}) {
				same(t, "once more", a, want[k])
			}
		}
	}
}

func TestNilIsAsGoodAsEmpty(t *testing.T) {
	no, empty := Store{Banks: 2, Bank: 1}, Store{Rom: []uint8{}, Banks: 2, Bank: 1, Ram: []Spot{}}
	if Check(no) != api.OK || Check(empty) != api.OK {
		t.Error("Check")
	}
	for _, addr := range edges {
		at, ram := Where(no, addr)
		if otherAt, other := Where(empty, addr); at != otherAt || ram != other || Read(no, addr) != Read(empty, addr) {
			t.Errorf("%d: an empty list isn't as good as nil", addr)
		}
	}
	want := answers(no, []uint8{1, 0, 2})
	for k, a := range answers(empty, []uint8{1, 0, 2}) {
		same(t, "empty lists", a, want[k])
	}
}

// Every call ends, and none of them panics, whatever the numbers are.
func TestEveryCallEnds(t *testing.T) {
	for _, n := range numbers {
		for _, bank := range numbers {
			for _, ram := range [][]Spot{nil, spots(math.MinInt, 1, math.MaxInt, 2), spots(math.MaxInt, 0, math.MinInt, 0)} {
				s := Store{Rom: rom(2), Banks: n, Bank: bank, Ram: ram}
				Check(s)
				for _, addr := range edges {
					Read(Write(s, addr, 7), addr)
					Read(Select(s, uint8(addr)), addr)
				}
				for _, at := range numbers {
					same(t, "Load", Load(s, at, []uint8{1, 0, 2}), wordedLoad(s, at, []uint8{1, 0, 2}))
				}
			}
		}
	}
}
