package step

import (
	"math"
	"slices"
	"testing"

	"charabanc/api"
)

// mess changes all of a list, up to its capacity.
func mess[E any](l []E, with E) {
	l = l[:cap(l)]
	for i := range l {
		l[i] = with
	}
}

// messWorld changes all of a world's lists.
func messWorld(w World) {
	mess(w.M, spareCell)
	mess(w.Ports, spareByte)
}

// worlds is some of all kinds.
func worlds() []World {
	c := chance(3)
	l := []World{{}, pushing(0), idle(0), {M: forms(idle(0).M)[3], Ports: []uint8{7}}}
	for _, code := range [][]uint8{{0x00}, {0x3e, 7}, {0x36, 0}, {0xf5}, {0xdb, 1}, {0xd3, 1}, {0xed, 0xb2}, {0xed, 0xb0}, {0x76}, {0xff}} {
		l = append(l, c.world(code...))
	}
	return l
}

// after is the worlds that the calls answer.
func after(w World) []World {
	var l []World
	for which := range 4 {
		v, _, _ := Step(w, which, 0xdb)
		l = append(l, v)
	}
	for _, n := range []int{-1, 0, 1, 7, 500} {
		v, _ := Run(w, n)
		u, _ := Until(w, 0x4321, n)
		l = append(l, v, u)
	}
	return l
}

// checkAfter fails unless worlds are those that are wanted.
func checkAfter(t *testing.T, what string, got, want []World) {
	t.Helper()
	for k := range want {
		checkWorld(t, what, got[k], want[k])
	}
}

func TestNoArgumentIsChanged(t *testing.T) {
	for _, w := range worlds() {
		g := guard(w)
		after(g)
		checkGuard(t, "a world", g, w)
	}
}

func TestAnswersShareNothingWithArguments(t *testing.T) {
	for _, w := range worlds() {
		g := guard(w)
		for _, v := range after(g) {
			messWorld(v)
		}
		checkGuard(t, "behind a change of the answers", g, w)
		// And the other way round.
		kept := after(g)
		want := after(w)
		messWorld(g)
		checkAfter(t, "behind a change of the arguments", kept, want)
	}
}

func TestAnswersShareNothingWithEachOther(t *testing.T) {
	for _, w := range worlds() {
		want := after(w)
		first, second := after(w), after(w)
		for k, v := range first {
			messWorld(v)
			checkAfter(t, "behind a change of another answer", second, want)
			checkAfter(t, "behind a change of another answer", first[k+1:], want[k+1:])
		}
		v, l, _ := Step(w, 0, 0)
		u, k, _ := Step(w, 0, 0)
		mess(l, spareCycle)
		mess(Sent(k), spareCell)
		checkWorld(t, "behind a change of the cycles", v, u)
		if x, again, _ := Step(w, 0, 0); !slices.Equal(k, again) || x.R != u.R {
			t.Errorf("cycles %s, want %s", tale(k), tale(again))
		}
	}
}

func TestAnswersHangOnArgumentsAlone(t *testing.T) {
	c := chance(8)
	w := c.program(20000)
	v := w
	v.M = slices.Grow(slices.Clone(w.M), 1000)
	want := after(w)
	for range 3 {
		checkAfter(t, "once more", after(guard(v)), want)
	}
}

func TestNilIsAsGoodAsEmpty(t *testing.T) {
	r := base()
	checkAfter(t, "empty lists", after(World{R: r, M: []api.Cell{}, Ports: []uint8{}}), after(World{R: r}))
	for _, w := range after(World{R: r}) {
		if len(w.Ports) != 0 {
			t.Errorf("ports %x", w.Ports)
		}
	}
	if l := Sent([]api.Cycle{}); len(l) != 0 {
		t.Error(l)
	}
}

func TestEveryCallEnds(t *testing.T) {
	edges := []int{math.MinInt, -1, 0, 1, 2, 3, 7, 200, math.MaxInt}
	c := chance(2)
	for _, mode := range edges {
		for _, which := range edges {
			w := c.world(c.byte(), c.byte(), c.byte(), c.byte())
			w.R.Mode = mode
			hold(t, "any", w, which, c.byte())
			Run(w, which)
			Until(w, c.word(), which)
		}
	}
}
