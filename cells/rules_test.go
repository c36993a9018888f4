package cells

import (
	"bytes"
	"slices"
	"strconv"
	"testing"

	"charabanc/api"
)

// answers is what each function that yields cells answers.
func answers(l, other []api.Cell) [][]api.Cell {
	return [][]api.Cell{
		Make(l),
		Put(l, 9, 0),
		Put(l, 9, 7),
		Load(l, 65535, nil),
		Load(l, 65535, []uint8{1, 0, 2}),
		Diff(l, other),
		Diff(other, l),
	}
}

// mess changes all of a list, up to its capacity.
func mess[E any](l []E, with E) {
	l = l[:cap(l)]
	for i := range l {
		l[i] = with
	}
}

func TestNoArgumentIsChanged(t *testing.T) {
	all := lists()
	for i, l := range all {
		other := all[(i*5+1)%len(all)]
		g, h := guarded(l), guarded(other)
		answers(g, h)
		Check(g)
		Get(g, 9)
		Dump(g, 65535, 5000)
		what := "list " + strconv.Itoa(i)
		intact(t, what, g, l)
		intact(t, what, h, other)
	}
	b := append(some(300), 0xc7, 0xc7)
	Load([]api.Cell{{Addr: 3, Data: 1}}, 65500, b[:300])
	if !bytes.Equal(b, append(some(300), 0xc7, 0xc7)) {
		t.Error("the bytes that Load is given, or what stands behind them, were changed")
	}
}

func TestAnswersShareNothingWithArguments(t *testing.T) {
	all := lists()
	for i, l := range all {
		other := all[(i*5+1)%len(all)]
		g, h := guarded(l), guarded(other)
		for _, a := range answers(g, h) {
			mess(a, spare)
		}
		what := "list " + strconv.Itoa(i)
		intact(t, what, g, l)
		intact(t, what, h, other)
		// And the other way round.
		kept := answers(g, h)
		want := answers(l, other)
		mess(g, spare)
		mess(h, spare)
		for k := range kept {
			same(t, what, kept[k], want[k])
		}
	}
	b := some(300)
	l := Load(nil, 0, b)
	mess(b, 0xc7)
	same(t, "what was loaded, behind a change of the bytes", l, Load(nil, 0, some(300)))
}

func TestAnswersShareNothingWithEachOther(t *testing.T) {
	all := lists()
	for i, l := range all {
		other := all[(i*5+1)%len(all)]
		first, second, want := answers(l, other), answers(l, other), answers(l, other)
		for k := range first {
			mess(first[k], spare)
			for j := range second {
				same(t, "list "+strconv.Itoa(i), second[j], want[j])
			}
		}
		a, b := Dump(l, 65000, 4096), Dump(l, 65000, 4096)
		was := slices.Clone(b)
		mess(a, 0xc7)
		if !bytes.Equal(b, was) {
			t.Fatalf("list %d: two calls of Dump share an array", i)
		}
	}
}

func TestWhatIsAppendedGoesElsewhere(t *testing.T) {
	all := lists()
	for i, l := range all {
		for _, a := range answers(l, all[(i*5+1)%len(all)]) {
			if cap(a) != len(a) {
				t.Fatalf("list %d: an answer of %d cells has a capacity of %d", i, len(a), cap(a))
			}
		}
	}
}

func TestAnswersHangOnArgumentsAlone(t *testing.T) {
	l := spread(500, 65000, 65521, 4)
	other := spread(400, 3, 131, 4)
	want := answers(l, other)
	for range 100 {
		for k, a := range answers(slices.Clone(l), guarded(other)) {
			same(t, "once more", a, want[k])
		}
	}
}

func TestNilIsAsGoodAsEmpty(t *testing.T) {
	two := []api.Cell{{Addr: 1, Data: 2}, {Addr: 65535, Data: 3}}
	for _, other := range [][]api.Cell{nil, {}, two} {
		want := answers(nil, other)
		for k, a := range answers([]api.Cell{}, other) {
			same(t, "an empty list", a, want[k])
		}
	}
	if Check(nil) != Check([]api.Cell{}) || Get(nil, 0) != Get([]api.Cell{}, 0) || !bytes.Equal(Dump(nil, 0, 9), Dump([]api.Cell{}, 0, 9)) {
		t.Error("an empty list is not as good as nil")
	}
	same(t, "no bytes", Load(two, 1, nil), Load(two, 1, []uint8{}))
}
