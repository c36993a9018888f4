package core

import (
	"math"
	"slices"
	"testing"

	"charabanc/api"
	"charabanc/cycle"
)

// Two processors that come from one have answers of their own, and so has the one that they come from.
func TestAnswersAreNewMemory(t *testing.T) {
	for _, from := range []Core{
		under(base(), 0, "21 34", api.Cycle{Kind: api.Read, Addr: 0x125, T: 3}, 0),           // a state
		under(base(), 0, "cd 34", api.Cycle{Kind: api.Read, Addr: 0x125, T: 3}, 2),           // a last one
		under(base(), 0, "dd dd", fetch(0x125), 1),                                           // a state that may be waited
		under(base(), 0, "21 34", api.Cycle{Kind: 9}, 0),                                     // no cycle
		{R: base(), Got: []uint8{0x21, 0x34}, A: cycle.At{C: fetch(0x125), K: 3}, Off: true}, // the bus is let go
	} {
		for _, word := range []string{".", "w", "b", "n"} {
			g := guarded(from)
			one, two := Tick(g, lit(word), 0x34), Tick(g, lit(word), 0x34)
			was := slices.Clone(two.Got)
			if len(was) == 0 {
				t.Fatalf("%s: no answers to look at", shown(from))
			}
			for k := range one.Got {
				one.Got[k] ^= 0xff
			}
			_ = append(one.Got, 1, 2, 3)
			checkGuard(t, shown(from), g, from)
			if !slices.Equal(two.Got, was) {
				t.Errorf("%s: %x, want %x", shown(from), two.Got, was)
			}
			_ = append(two.Got, 4, 5, 6)
			checkGuard(t, shown(from), g, from)
		}
	}
}

// A way that forks goes on as if it hadn't.
func TestWaysFork(t *testing.T) {
	answers := bytesOf("dd dd dd dd dd dd dd dd dd 36 05 07")
	want, last := walk(t, New(base()), script("60*."), answers)
	n := New(base())
	rest := answers
	for range 60 {
		b := uint8(0)
		if _, asks := Asks(n, Lines{}); asks && len(rest) > 0 {
			b, rest = rest[0], rest[1:]
		}
		for _, other := range []uint8{0xff, 0x76, 0} {
			o := n
			for range 9 {
				o = Tick(o, Lines{}, other)
			}
		}
		n = Tick(n, Lines{}, b)
	}
	check(t, want, n, last)
}

func TestNilIsAsGoodAsEmpty(t *testing.T) {
	for _, from := range somewhere() {
		from.Got = nil
		for _, none := range [][]uint8{{}, bytesOf("3e 07")[:0], make([]uint8, 0, 9)} {
			c := from
			c.Got = none
			for _, l := range allLines() {
				check(t, shown(from), Tick(c, l, 0x3e), Tick(from, l, 0x3e))
				x, asks := Asks(c, l)
				if y, want := Asks(from, l); x != y || asks != want || Ends(c, l, 0x3e) != Ends(from, l, 0x3e) || Fresh(c) != Fresh(from) {
					t.Errorf("%s with %+v: %+v, %v", shown(from), l, x, asks)
				}
			}
		}
	}
}

func TestCallsHangOnArgumentsAlone(t *testing.T) {
	c := chance(9)
	for range 300 {
		n, l, b := c.any(), c.lines(3), c.byte()
		want := Tick(n, l, b)
		x, asks := Asks(n, l)
		ends := Ends(n, l, b)
		for range 3 {
			o := c.any()
			Tick(o, c.lines(2), c.byte())
			Asks(o, c.lines(2))
			Ends(o, c.lines(2), c.byte())
			New(o.R)
		}
		g := guarded(n)
		check(t, shown(n), Tick(g, l, b), want)
		if y, again := Asks(g, l); y != x || again != asks || Ends(g, l, b) != ends {
			t.Errorf("%s with %+v: %+v, %v", shown(n), l, y, again)
		}
	}
}

func TestEveryCallEnds(t *testing.T) {
	numbers := []int{math.MinInt, -1, 0, 1, 2, 3, 4, 5, 6, 7, 8, 32, 33, math.MaxInt}
	many := slices.Repeat([]uint8{0xdd, 0xfd}, 50000)
	for _, kind := range numbers {
		for _, k := range numbers {
			for n, l := range allLines() {
				c := Core{R: base(), Which: numbers[n%14], Got: many[:n%5*100], A: cycle.At{C: api.Cycle{Kind: kind, T: k}, K: k - 1, Waited: k}, Byte: 0xdd, Off: n%3 == 0}
				c.R.Mode = k
				Tick(c, l, 0xdd)
				Asks(c, l)
				Ends(c, l, 0xdd)
				Fresh(c)
				New(c.R)
			}
		}
	}
	c := under(base(), 0, "", fetch(0x123), 3)
	c.Got, c.Byte = many, 0xdd
	n := Tick(c, lit("b"), 0)
	if len(n.Got) != len(many)+1 || n.A.C.Kind != api.Fetch || !n.Off || !Ends(c, Lines{}, 0) {
		t.Errorf("behind many prefixes: %d answers, %+v", len(n.Got), n.A)
	}
}

// The greatest Waited is but a number: it plays no part in what comes behind.
func TestWaitedOfAnySize(t *testing.T) {
	r := base()
	r.PC++
	r.R++
	for _, waited := range []int{-1, 1, 1 << 40, math.MaxInt - 1, math.MaxInt, math.MinInt} {
		c := under(base(), 0, "", fetch(0x123), 1)
		c.A.Waited = waited
		n := tick(t, c, lit("w"), 0x5a)
		n.A.Waited = waited
		check(t, shown(c), n, c)
		for k := 2; k <= 3; k++ {
			n = tick(t, n, Lines{}, 0)
			c.A.K = k
			check(t, shown(c), n, c)
		}
		check(t, shown(c), tick(t, n, Lines{}, 0x5a), New(r))
	}
}
