package cycle

import (
	"slices"
	"testing"

	"charabanc/api"
)

// What Tick answers goes on as Take counts and Names tells.
func TestTickGoesOnAsTakeCounts(t *testing.T) {
	c := chance(5)
	for range 500 {
		x := of(1+c.below(7), 5+c.below(28))
		waits := c.line(50)
		a, n, at, last := At{C: x}, 0, 0, false
		for !last {
			var moved bool
			a, moved, last = Tick(a, n < len(waits) && waits[n])
			n++
			if moved {
				at = n
			}
		}
		if a.K != x.T || n != x.T+a.Waited {
			t.Errorf("%+v: %+v behind %d states", x, a, n)
		}
		if gotN, gotAt := Take(x, waits); gotN != n || gotAt != at {
			t.Errorf("Take(%+v, %v) = %d, %d, want %d, %d", x, waits, gotN, gotAt, n, at)
		}
		if l := Names(x, waits); len(l) != n {
			t.Errorf("Names(%+v, %v): %d names, want %d", x, waits, len(l), n)
		}
	}
}

// The address and the byte of a cycle play no part, and come out of Tick as they went in.
func TestAddressAndByteStay(t *testing.T) {
	for kind := 1; kind <= 7; kind++ {
		for _, x := range []api.Cycle{{Kind: kind, T: 6}, {Kind: kind, Addr: 0xffff, T: 6}, {Kind: kind, Data: 0xff, T: 6}} {
			for k := -1; k <= 7; k++ {
				for _, wait := range []bool{false, true} {
					if a, _, _ := Tick(At{C: x, K: k}, wait); a.C != x {
						t.Errorf("%+v came out as %+v", x, a.C)
					}
				}
			}
			checkTake(t, x, line("0111"), Names(of(kind, 6), line("0111")), func() int { _, at := Take(of(kind, 6), line("0111")); return at }())
		}
	}
}

func TestNamesAreNewMemory(t *testing.T) {
	x, waits := of(api.Read, 5), line("011")
	l := Names(x, waits)
	want := slices.Clone(l)
	again := Names(x, waits)
	for k := range l {
		l[k] = "?"
	}
	_ = append(l, "?")
	if !slices.Equal(again, want) || !slices.Equal(Names(x, waits), want) {
		t.Errorf("%q, want %q", again, want)
	}
}

// Nil is as good as a list without items, and what stands behind a list's end plays no part.
func TestListsWithoutItems(t *testing.T) {
	for kind := 1; kind <= 7; kind++ {
		x := of(kind, 6)
		want := Names(x, nil)
		for _, waits := range [][]bool{{}, line("9*1")[:0], make([]bool, 0, 9), guarded(nil)} {
			if got := Names(x, waits); !slices.Equal(got, want) {
				t.Errorf("kind %d: %q, want %q", kind, got, want)
			}
			if n, _ := Take(x, waits); n != 6 {
				t.Errorf("kind %d: %d states", kind, n)
			}
		}
	}
}

func TestCallsHangOnArgumentsAlone(t *testing.T) {
	x, waits := of(api.Ack, 7), line("000111")
	want := Names(x, waits)
	for kind := -1; kind < 9; kind++ {
		Take(of(kind, 40), line("9*1"))
		Names(of(kind, 9), line("0010"))
		Tick(At{C: of(kind, 6), K: 3, Waited: 8}, true)
		if got := Names(x, waits); !slices.Equal(got, want) {
			t.Errorf("%q, want %q", got, want)
		}
	}
}
