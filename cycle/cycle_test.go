package cycle

import (
	"math"
	"slices"
	"strings"
	"testing"

	"charabanc/api"
)

// least is how few states a cycle of each kind may have.
var least = map[int]int{api.Fetch: 3, api.Read: 3, api.Write: 3, api.In: 4, api.Out: 4, api.Ack: 5, api.Inner: 1}

func TestP17_1Sample(t *testing.T) {
	want := map[int]int{1: 2, 2: 2, 3: 2, 4: 3, 5: 3, 6: 4}
	for _, kind := range numbers {
		if got := Sample(kind); got != want[kind] {
			t.Errorf("Sample(%d) = %d, want %d", kind, got, want[kind])
		}
	}
}

func TestP17_1CheckOfEachKind(t *testing.T) {
	for kind, from := range least {
		for _, states := range slices.Concat(numbers, []int{from - 2, from - 1, from, from + 1, Sample(kind), Sample(kind) + 1, 10, 20}) {
			want := api.ErrArg
			if states >= from && states <= 32 {
				want = api.OK
			}
			if got := Check(of(kind, states)); got != want {
				t.Errorf("kind %d, T %d: %d, want %d", kind, states, got, want)
			}
		}
	}
}

func TestP17_1CheckOfNoKind(t *testing.T) {
	for _, kind := range numbers {
		if kind >= 1 && kind <= 7 {
			continue
		}
		for _, states := range numbers {
			if got := Check(of(kind, states)); got != api.ErrArg {
				t.Errorf("kind %d, T %d: %d, want %d", kind, states, got, api.ErrArg)
			}
		}
	}
}

func TestP17_1CheckHangsOnKindAndStatesAlone(t *testing.T) {
	for _, addr := range []uint16{0, 1, 0x8000, 0xffff} {
		for _, data := range []uint8{0, 1, 0xff} {
			if got := Check(api.Cycle{Kind: api.Write, Addr: addr, Data: data, T: 3}); got != api.OK {
				t.Errorf("address %x, byte %x: %d", addr, data, got)
			}
			if got := Check(api.Cycle{Kind: api.Write, Addr: addr, Data: data, T: 2}); got != api.ErrArg {
				t.Errorf("address %x, byte %x, T 2: %d", addr, data, got)
			}
		}
	}
}

func TestP17_2TickByHand(t *testing.T) {
	for _, c := range []struct {
		kind, states int
		k            int
		wait         bool
		behind       int
		waited       bool
		moved, last  bool
	}{
		{api.Fetch, 4, 0, false, 1, false, false, false},
		{api.Fetch, 4, 0, true, 1, false, false, false}, // not sampled yet
		{api.Fetch, 4, 1, false, 2, false, false, false},
		{api.Fetch, 4, 1, true, 1, true, false, false},
		{api.Fetch, 4, 2, true, 3, false, true, false},
		{api.Fetch, 4, 3, true, 4, false, false, true},
		{api.Fetch, 3, 2, false, 3, false, true, true},
		{api.Fetch, 32, 30, true, 31, false, false, false},
		{api.Fetch, 32, 31, true, 32, false, false, true},
		{api.Read, 3, 1, true, 1, true, false, false},
		{api.Read, 3, 1, false, 2, false, false, false},
		{api.Read, 3, 2, true, 3, false, true, true},
		{api.Read, 4, 2, false, 3, false, true, false},
		{api.Write, 5, 1, true, 1, true, false, false},
		{api.Write, 5, 2, false, 3, false, true, false},
		{api.Write, 5, 3, true, 4, false, false, false},
		{api.Write, 5, 4, true, 5, false, false, true},
		{api.In, 4, 1, true, 2, false, false, false},
		{api.In, 4, 2, true, 2, true, false, false},
		{api.In, 4, 2, false, 3, false, false, false},
		{api.In, 4, 3, true, 4, false, true, true},
		{api.In, 5, 3, false, 4, false, true, false},
		{api.Out, 4, 1, true, 2, false, false, false},
		{api.Out, 4, 2, true, 2, true, false, false},
		{api.Out, 4, 3, false, 4, false, true, true},
		{api.Out, 32, 3, false, 4, false, true, false},
		{api.Ack, 6, 2, true, 3, false, false, false},
		{api.Ack, 6, 3, true, 3, true, false, false},
		{api.Ack, 6, 3, false, 4, false, false, false},
		{api.Ack, 6, 4, true, 5, false, true, false},
		{api.Ack, 6, 5, true, 6, false, false, true},
		{api.Ack, 5, 4, false, 5, false, true, true},
		{api.Inner, 1, 0, true, 1, false, false, true},
		{api.Inner, 2, 0, true, 1, false, false, false},
		{api.Inner, 2, 1, true, 2, false, false, true},
		{api.Inner, 5, 2, true, 3, false, false, false},
		{api.Inner, 5, 3, true, 4, false, false, false},
	} {
		for _, waited := range []int{0, 1, 7, 33, -1, -9, math.MaxInt - 1, math.MinInt} {
			a := At{C: of(c.kind, c.states), K: c.k, Waited: waited}
			want := At{C: a.C, K: c.behind, Waited: waited}
			if c.waited {
				want.Waited++
			}
			checkTick(t, a, c.wait, want, c.moved, c.last)
		}
	}
}

func TestP17_2TickWaitsAnyNumberOfTimes(t *testing.T) {
	for kind, from := range least {
		sample := Sample(kind)
		if sample == 0 {
			continue
		}
		a := At{C: of(kind, from), K: sample - 1}
		for n := range 1000 {
			checkTick(t, a, true, At{C: a.C, K: a.K, Waited: n + 1}, false, false)
			a, _, _ = Tick(a, true)
		}
		checkTick(t, a, false, At{C: a.C, K: sample, Waited: 1000}, false, false)
	}
}

func TestP17_2TickOfTheGreatestWaited(t *testing.T) {
	c := of(api.Read, 3)
	checkTick(t, At{C: c, K: 0, Waited: math.MaxInt}, true, At{C: c, K: 1, Waited: math.MaxInt}, false, false)
	checkTick(t, At{C: c, K: 2, Waited: math.MaxInt}, true, At{C: c, K: 3, Waited: math.MaxInt}, true, true)
	if got, moved, last := Tick(At{C: c, K: 1, Waited: math.MaxInt}, true); got.C != c || got.K != 1 || moved || last {
		t.Errorf("waited once more: %+v, %v, %v", got, moved, last)
	}
}

func TestP17_2TickOfNoPlace(t *testing.T) {
	for kind, from := range least {
		for _, states := range []int{from, from + 1, 32} {
			for _, k := range slices.Concat(numbers, []int{states, states + 1}) {
				if k >= 0 && k < states {
					continue
				}
				for _, wait := range []bool{false, true} {
					for _, waited := range []int{0, 5, -1, math.MaxInt, math.MinInt} {
						a := At{C: of(kind, states), K: k, Waited: waited}
						checkTick(t, a, wait, a, false, false)
					}
				}
			}
		}
	}
}

func TestP17_2TickOfACycleThatMayNotBe(t *testing.T) {
	for _, c := range []api.Cycle{
		{}, of(0, 4), of(8, 4), of(-1, 4), of(math.MinInt, 4), of(math.MaxInt, 4),
		of(api.Fetch, 2), of(api.Read, 0), of(api.Write, 33), of(api.In, 3), of(api.Out, 33), of(api.Ack, 4),
		of(api.Inner, 0), of(api.Inner, -1), of(api.Inner, 33), of(api.Inner, math.MaxInt), of(api.Fetch, math.MinInt),
	} {
		for k := -1; k <= 34; k++ {
			for _, wait := range []bool{false, true} {
				a := At{C: c, K: k, Waited: 3}
				checkTick(t, a, wait, a, false, false)
			}
		}
	}
}

func TestP17_3TakeAndNamesByHand(t *testing.T) {
	for _, c := range []struct {
		kind, states int
		waits        string
		names        string
		moved        int
	}{
		{api.Fetch, 3, "", "T1 T2 T3", 3},
		{api.Fetch, 4, "", "T1 T2 T3 T4", 3},
		{api.Fetch, 4, "0", "T1 T2 T3 T4", 3},
		{api.Fetch, 4, "1", "T1 T2 T3 T4", 3},
		{api.Fetch, 4, "1011", "T1 T2 T3 T4", 3},
		{api.Fetch, 4, "01", "T1 TW T2 T3 T4", 4},
		{api.Fetch, 4, "0111", "T1 TW TW TW T2 T3 T4", 6},
		{api.Fetch, 6, "1101111111", "T1 TW T2 T3 T4 T5 T6", 4},
		{api.Read, 3, "0110", "T1 TW TW T2 T3", 5}, // the document's own
		{api.Read, 3, "0010", "T1 T2 T3", 3},
		{api.Read, 4, "0001", "T1 T2 T3 T4", 3},
		{api.Read, 3, "9*0", "T1 T2 T3", 3},
		{api.Read, 3, "9*1", "T1 TW TW TW TW TW TW TW TW T2 T3", 11},
		{api.Write, 3, "01", "T1 TW T2 T3", 4},
		{api.Write, 5, "", "T1 T2 T3 T4 T5", 3},
		{api.Write, 5, "0100101", "T1 TW T2 T3 T4 T5", 4},
		{api.In, 4, "", "T1 T2 TW T3", 4},
		{api.In, 4, "110", "T1 T2 TW T3", 4},
		{api.In, 4, "001", "T1 T2 TW TW T3", 5},
		{api.In, 4, "6*1", "T1 T2 TW TW TW TW TW T3", 8},
		{api.In, 5, "0001", "T1 T2 TW T3 T4", 4},
		{api.In, 6, "00110", "T1 T2 TW TW TW T3 T4 T5", 6},
		{api.Out, 4, "", "T1 T2 TW T3", 4},
		{api.Out, 4, "0011", "T1 T2 TW TW TW T3", 6},
		{api.Out, 5, "01000", "T1 T2 TW T3 T4", 4},
		{api.Ack, 5, "", "T1 T2 TW TW T3", 5},
		{api.Ack, 6, "", "T1 T2 TW TW T3 T4", 5},
		{api.Ack, 6, "111", "T1 T2 TW TW T3 T4", 5},
		{api.Ack, 6, "0001", "T1 T2 TW TW TW T3 T4", 6},
		{api.Ack, 7, "1111110111", "T1 T2 TW TW TW TW TW T3 T4 T5", 8},
		{api.Ack, 7, "00001", "T1 T2 TW TW T3 T4 T5", 5},
		{api.Inner, 1, "", "T1", 0},
		{api.Inner, 1, "1", "T1", 0},
		{api.Inner, 2, "11", "T1 T2", 0},
		{api.Inner, 5, "9*1", "T1 T2 T3 T4 T5", 0},
		{api.Fetch, 32, "", "T1 T2 T3 T4 T5 T6 T7 T8 T9 T10 T11 T12 T13 T14 T15 T16 T17 T18 T19 T20 T21 T22 T23 T24 T25 T26 T27 T28 T29 T30 T31 T32", 3},
		{api.Inner, 32, "32*1", "T1 T2 T3 T4 T5 T6 T7 T8 T9 T10 T11 T12 T13 T14 T15 T16 T17 T18 T19 T20 T21 T22 T23 T24 T25 T26 T27 T28 T29 T30 T31 T32", 0},
		{api.In, 32, "", "T1 T2 TW T3 T4 T5 T6 T7 T8 T9 T10 T11 T12 T13 T14 T15 T16 T17 T18 T19 T20 T21 T22 T23 T24 T25 T26 T27 T28 T29 T30 T31", 4},
		{api.Out, 32, "001", "T1 T2 TW TW T3 T4 T5 T6 T7 T8 T9 T10 T11 T12 T13 T14 T15 T16 T17 T18 T19 T20 T21 T22 T23 T24 T25 T26 T27 T28 T29 T30 T31", 5},
		{api.Ack, 32, "1111", "T1 T2 TW TW TW T3 T4 T5 T6 T7 T8 T9 T10 T11 T12 T13 T14 T15 T16 T17 T18 T19 T20 T21 T22 T23 T24 T25 T26 T27 T28 T29 T30", 6},
	} {
		checkTake(t, of(c.kind, c.states), line(c.waits), strings.Fields(c.names), c.moved)
	}
}

func TestP17_3OfACycleThatMayNotBe(t *testing.T) {
	for _, waits := range [][]bool{nil, {}, line("01"), line("40*1")} {
		for _, kind := range numbers {
			for _, states := range numbers {
				c := of(kind, states)
				if Check(c) == api.OK {
					continue
				}
				if n, at := Take(c, waits); n != 0 || at != 0 {
					t.Errorf("Take(%+v) = %d, %d", c, n, at)
				}
				if l := Names(c, waits); l != nil {
					t.Errorf("Names(%+v) = %q", c, l)
				}
			}
		}
	}
}

func TestP17_3ManyWaits(t *testing.T) {
	for _, c := range []struct{ kind, states, before int }{{api.Read, 3, 1}, {api.In, 4, 2}, {api.Ack, 6, 3}} {
		const many = 100000
		waits := slices.Concat(make([]bool, c.before), slices.Repeat([]bool{true}, many))
		x := of(c.kind, c.states)
		if n, at := Take(x, waits); n != c.states+many || at != Sample(c.kind)+many+1 {
			t.Errorf("kind %d: %d, %d", c.kind, n, at)
		}
		l := Names(x, waits)
		if len(l) != c.states+many || !slices.Equal(slices.Compact(l), slices.Compact(Names(x, waits[:c.before+1]))) {
			t.Errorf("kind %d: %d names", c.kind, len(l))
		}
	}
}

// The states that a cycle takes are T, and one for each wait state; what comes ahead of the sampled state or behind it waits for nothing.
func TestP17_4StatesAndWaits(t *testing.T) {
	for kind, from := range least {
		sample := Sample(kind)
		for states := from; states <= 32; states++ {
			for waits := range 6 {
				for _, other := range []bool{false, true} {
					l := slices.Repeat([]bool{other}, max(sample-1, 0))
					l = append(l, slices.Repeat([]bool{true}, waits)...)
					l = append(l, false)
					l = append(l, slices.Repeat([]bool{other}, 32)...)
					want := states + waits
					if kind == api.Inner {
						want = states
					}
					n, at := Take(of(kind, states), l)
					if n != want {
						t.Errorf("kind %d, T %d, %d waits: %d states, want %d", kind, states, waits, n, want)
					}
					if kind != api.Inner && at != sample+1+waits || kind == api.Inner && at != 0 {
						t.Errorf("kind %d, T %d, %d waits: a byte in state %d", kind, states, waits, at)
					}
				}
			}
		}
	}
}

// An Inner is never waited, however the wait line stands.
func TestP17_4InnerHasNoWaits(t *testing.T) {
	for states := 1; states <= 32; states++ {
		a := At{C: of(api.Inner, states)}
		for k := range states {
			checkTick(t, a, true, At{C: a.C, K: k + 1}, false, k == states-1)
			a, _, _ = Tick(a, true)
		}
		if l := Names(a.C, line("99*1")); len(l) != states || slices.Contains(l, "TW") {
			t.Errorf("T %d: %q", states, l)
		}
	}
}
