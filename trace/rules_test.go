package trace

import (
	"math"
	"slices"
	"testing"

	"charabanc/api"
	"charabanc/step"
)

// mess changes all of a list, up to its capacity.
func mess[E any](l []E, with E) {
	l = l[:cap(l)]
	for i := range l {
		l[i] = with
	}
}

// worlds is some of all kinds.
func worlds() []step.World {
	c := chance(3)
	l := []step.World{{}, {R: base()}, {R: base(), M: laid(0x100, bytesOf("12*dd"), 0xdd), Ports: []uint8{7}}}
	for k := range 8 {
		l = append(l, c.program(60, uint8(30*k)))
	}
	for _, m := range forms(laid(0x100, bytesOf("db 10 77 36 00 ed b0"), 0x23)) {
		l = append(l, step.World{R: base(), M: m, Ports: []uint8{1, 2, 3}})
	}
	return l
}

// answers is what the calls answer of a world.
func answers(w step.World) (code [][]uint8, lines [][]string) {
	lines = append(lines, []string{Line(w)})
	for _, n := range []int{-1, 0, 1, 7, 500} {
		code = append(code, Code(w))
		lines = append(lines, Run(w, n))
	}
	return code, lines
}

// checkAnswers fails unless what the calls answer of a world is what is wanted.
func checkAnswers(t *testing.T, what string, w step.World, code [][]uint8, lines [][]string) {
	t.Helper()
	c, l := answers(w)
	if !slices.EqualFunc(c, code, slices.Equal) || !slices.EqualFunc(l, lines, slices.Equal) {
		t.Errorf("%s: %x and %q, want %x and %q", what, c, l, code, lines)
	}
}

func TestNoArgumentIsChanged(t *testing.T) {
	for _, w := range worlds() {
		g := guard(w)
		answers(g)
		checkGuard(t, "a world", g, w)
	}
}

func TestAnswersShareNothing(t *testing.T) {
	for _, w := range worlds() {
		code, lines := answers(w)
		g := guard(w)
		c, l := answers(g)
		for k := range c {
			mess(c[k], 0x5a)
			// Other answers, and the arguments, are what they were.
			for n := k + 1; n < len(c); n++ {
				if !slices.Equal(c[n], code[n]) {
					t.Errorf("code %x, want %x", c[n], code[n])
				}
			}
		}
		for k := range l {
			mess(l[k], "other")
			for n := k + 1; n < len(l); n++ {
				if !slices.Equal(l[n], lines[n]) {
					t.Errorf("lines %q, want %q", l[n], lines[n])
				}
			}
		}
		checkGuard(t, "behind a change of the answers", g, w)
		checkAnswers(t, "behind a change of the answers", g, code, lines)
		// And the other way round.
		c, l = answers(g)
		mess(g.M, spareCell)
		mess(g.Ports, spareByte)
		if !slices.EqualFunc(c, code, slices.Equal) || !slices.EqualFunc(l, lines, slices.Equal) {
			t.Errorf("behind a change of the arguments: %x and %q, want %x and %q", c, l, code, lines)
		}
	}
}

func TestWhatIsAppendedToCodeGoesElsewhere(t *testing.T) {
	w := step.World{M: laid(0, bytesOf("3e 07 55 66"), 0)}
	b := Code(w)
	one, two := append(b, 1), append(b, 2)
	if !slices.Equal(one, []uint8{0x3e, 7, 1}) || !slices.Equal(two, []uint8{0x3e, 7, 2}) {
		t.Errorf("%x, %x", one, two)
	}
	if cap(b) != 2 {
		t.Errorf("what stands behind the code can be seen: a capacity of %d", cap(b))
	}
}

func TestAnswersHangOnArgumentsAlone(t *testing.T) {
	for _, w := range worlds() {
		code, lines := answers(w)
		v := w
		v.M = slices.Grow(slices.Clone(w.M), 1000)
		v.Ports = slices.Grow(slices.Clone(w.Ports), 1000)
		for range 3 {
			checkAnswers(t, "once more", v, code, lines)
			answers(step.World{R: base(), M: laid(0x100, bytesOf("76"), 0xc7)})
		}
	}
}

func TestNilIsAsGoodAsEmpty(t *testing.T) {
	code, lines := answers(step.World{R: base()})
	checkAnswers(t, "empty lists", step.World{R: base(), M: []api.Cell{}, Ports: []uint8{}}, code, lines)
	for _, n := range []int{math.MinInt, -1, 0} {
		if l := Run(step.World{R: base()}, n); len(l) != 0 {
			t.Errorf("%d lines", len(l))
		}
	}
}

func TestEveryCallEnds(t *testing.T) {
	c := chance(9)
	edges := []int{math.MinInt, -1, 0, 1, 2, 3, 7, 200, math.MaxInt}
	for _, mode := range edges {
		for _, n := range edges {
			w := c.program(50, c.byte())
			w.R.Mode = mode
			hold(t, "any", w)
			Run(w, n)
			Kind(n)
			Cycle(api.Cycle{Kind: mode, Addr: c.word(), Data: c.byte(), T: n})
		}
	}
}
