package cycle

import (
	"fmt"
	"math"
	"slices"
	"strings"
	"testing"

	"charabanc/api"
)

// of is a cycle of a kind and so many states; its address and byte play no part.
func of(kind, t int) api.Cycle {
	return api.Cycle{Kind: kind, Addr: 0xbeef, Data: 0x5a, T: t}
}

// numbers is numbers small and great.
var numbers = []int{
	math.MinInt, math.MinInt + 1, math.MinInt32 - 1, math.MinInt32, -65536, -257, -256, -33, -32, -8, -7, -2, -1,
	0, 1, 2, 3, 4, 5, 6, 7, 8, 9, 31, 32, 33, 64, 255, 256, 257, 261, 65536, 65541,
	math.MaxInt32, math.MaxInt32 + 1, 1 << 32, 1<<32 + 1, 1<<32 + 5, math.MaxInt - 1, math.MaxInt,
}

// line is a wait line: 1 where it is active, 0 where it isn't; "9*1" is nine that are.
func line(words string) []bool {
	var l []bool
	for word := range strings.FieldsSeq(words) {
		times := 1
		if count, rest, ok := strings.Cut(word, "*"); ok {
			fmt.Sscan(count, &times)
			word = rest
		}
		for range times {
			for _, c := range word {
				l = append(l, c == '1')
			}
		}
	}
	return l
}

// guarded is a copy of a list, with active ones behind its end.
func guarded(l []bool) []bool {
	whole := append(slices.Clone(l), true, true, true, true, true, true)
	return whole[:len(l):len(whole)]
}

// intact tells whether a guarded list, and what stands behind it, is what it was.
func intact(l, was []bool) bool {
	return slices.Equal(l, was) && !slices.Contains(l[len(l):cap(l)], false)
}

// checkTick holds Tick against what is wanted of it.
func checkTick(t *testing.T, a At, wait bool, want At, moved, last bool) {
	t.Helper()
	got, gotMoved, gotLast := Tick(a, wait)
	if got != want || gotMoved != moved || gotLast != last {
		t.Errorf("Tick(%+v, %v) = %+v, %v, %v, want %+v, %v, %v", a, wait, got, gotMoved, gotLast, want, moved, last)
	}
}

// checkTake holds Take and Names against names and the state in which a byte is taken or put.
func checkTake(t *testing.T, c api.Cycle, waits []bool, names []string, moved int) {
	t.Helper()
	g := guarded(waits)
	if n, at := Take(c, g); n != len(names) || at != moved {
		t.Errorf("Take(%+v, %v) = %d, %d, want %d, %d", c, waits, n, at, len(names), moved)
	}
	if got := Names(c, g); !slices.Equal(got, names) {
		t.Errorf("Names(%+v, %v) = %q, want %q", c, waits, got, names)
	}
	if !intact(g, waits) {
		t.Errorf("%+v, %v: the wait line was changed", c, waits)
	}
}

// chance is numbers that look like any, the same ones on each run.
type chance uint64

func (c *chance) below(n int) int {
	*c = *c*6364136223846793005 + 1442695040888963407
	return int(uint64(*c)>>33) % n
}

// line is a wait line of at most so many states.
func (c *chance) line(most int) []bool {
	l := make([]bool, c.below(most+1))
	dense := c.below(4)
	for k := range l {
		l[k] = c.below(4) < dense
	}
	return l
}
