package cycle

import (
	"strconv"
	"testing"

	"charabanc/api"
)

// The chapter once more, sentence by sentence: a second reader to hold the package against.

func wordedSample(kind int) int {
	switch kind {
	case api.Fetch, api.Read, api.Write:
		return 2
	case api.In, api.Out:
		return 3
	case api.Ack:
		return 4
	default:
		return 0
	}
}

func wordedCheck(c api.Cycle) api.Errno {
	for kind := 1; kind <= 7; kind++ {
		for states := wordedSample(kind) + 1; states <= 32; states++ {
			if c.Kind == kind && c.T == states {
				return api.OK
			}
		}
	}
	return api.ErrArg
}

func wordedTick(a At, wait bool) (At, bool, bool) {
	if wordedCheck(a.C) != api.OK {
		return a, false, false
	}
	if a.K < 0 || a.K > a.C.T-1 {
		return a, false, false
	}
	sample := wordedSample(a.C.Kind)
	if sample != 0 && a.K == sample-1 && wait {
		return At{C: a.C, K: a.K, Waited: a.Waited + 1}, false, false
	}
	moved := sample != 0 && a.K+1 == sample+1
	return At{C: a.C, K: a.K + 1, Waited: a.Waited}, moved, a.K+1 == a.C.T
}

func wordedName(kind, k int) string {
	switch {
	case (kind == api.In || kind == api.Out) && k == 3:
		return "TW"
	case (kind == api.In || kind == api.Out) && k > 3:
		return "T" + strconv.Itoa(k-1)
	case kind == api.Ack && (k == 3 || k == 4):
		return "TW"
	case kind == api.Ack && k > 4:
		return "T" + strconv.Itoa(k-2)
	}
	return "T" + strconv.Itoa(k)
}

func wordedStates(c api.Cycle, waits []bool) (names []string, at int) {
	if wordedCheck(c) != api.OK {
		return nil, 0
	}
	a := At{C: c}
	for {
		wait := false
		if len(waits) > 0 {
			wait, waits = waits[0], waits[1:]
		}
		behind, moved, last := wordedTick(a, wait)
		if behind.Waited > a.Waited {
			names = append(names, "TW")
		} else {
			names = append(names, wordedName(c.Kind, behind.K))
		}
		if moved {
			at = len(names)
		}
		if last {
			return names, at
		}
		a = behind
	}
}

func TestP17_1AsWorded(t *testing.T) {
	for kind := -3; kind <= 300; kind++ {
		if got, want := Sample(kind), wordedSample(kind); got != want {
			t.Errorf("Sample(%d) = %d, want %d", kind, got, want)
		}
		for states := -3; states <= 70; states++ {
			c := of(kind, states)
			if got, want := Check(c), wordedCheck(c); got != want {
				t.Errorf("Check(%+v) = %d, want %d", c, got, want)
			}
		}
	}
}

func TestP17_2AsWorded(t *testing.T) {
	for kind := -1; kind <= 9; kind++ {
		for states := -1; states <= 34; states++ {
			for k := -2; k <= 36; k++ {
				for _, wait := range []bool{false, true} {
					a := At{C: of(kind, states), K: k, Waited: k * states}
					want, moved, last := wordedTick(a, wait)
					checkTick(t, a, wait, want, moved, last)
				}
			}
		}
	}
	for _, kind := range numbers {
		for _, states := range numbers {
			for _, k := range numbers {
				a := At{C: of(kind, states), K: k, Waited: 9}
				want, moved, last := wordedTick(a, true)
				checkTick(t, a, true, want, moved, last)
			}
		}
	}
}

// Every wait line of up to nine states, ahead of which nothing is left out.
func TestP17_3AsWordedOnEachLine(t *testing.T) {
	for kind := 0; kind <= 8; kind++ {
		for _, states := range []int{1, 2, 3, 4, 5, 6, 7, 32, 33} {
			for size := range 10 {
				for bits := range 1 << size {
					waits := make([]bool, size)
					for k := range waits {
						waits[k] = bits>>k&1 != 0
					}
					names, at := wordedStates(of(kind, states), waits)
					checkTake(t, of(kind, states), waits, names, at)
				}
			}
		}
	}
}

func TestP17_3AsWordedOnLongLines(t *testing.T) {
	c := chance(17)
	for range 4000 {
		x := of(c.below(9), c.below(36)-1)
		waits := c.line(60)
		names, at := wordedStates(x, waits)
		checkTake(t, x, waits, names, at)
	}
}
