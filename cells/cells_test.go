package cells

import (
	"bytes"
	"math"
	"slices"
	"strconv"
	"testing"

	"charabanc/api"
)

func TestP14_1Check(t *testing.T) {
	for i, l := range memories() {
		if e := Check(l); e != api.OK {
			t.Errorf("memory %d: %v", i, e)
		}
	}
	for i, l := range mixtures() {
		if e := Check(l); e != api.ErrArg {
			t.Errorf("list %d, which is no memory: %v", i, e)
		}
	}
	for i, want := range []api.Errno{api.OK, api.OK, api.ErrArg, api.ErrArg} {
		if e := Check(great()[i]); e != want {
			t.Errorf("great list %d: %v, want %v", i, e, want)
		}
	}
}

func TestP14_1CheckOfAllNeighbours(t *testing.T) {
	for at := range 65535 {
		low, high := api.Cell{Addr: uint16(at), Data: 1}, api.Cell{Addr: uint16(at + 1), Data: 1}
		if e := Check([]api.Cell{low, high}); e != api.OK {
			t.Fatalf("%d and %d: %v", at, at+1, e)
		}
		if e := Check([]api.Cell{low, low}); e != api.ErrArg {
			t.Fatalf("%d twice: %v", at, e)
		}
		if e := Check([]api.Cell{high, low}); e != api.ErrArg {
			t.Fatalf("%d and %d: %v", at+1, at, e)
		}
	}
}

func TestP14_1CheckFindsAFaultAnywhere(t *testing.T) {
	whole := spread(300, 10, 3, 1)
	for i := range whole {
		whole[i].Data = uint8(i%255 + 1)
	}
	if e := Check(whole); e != api.OK {
		t.Fatal(e)
	}
	for i := range whole {
		l := slices.Clone(whole)
		l[i].Data = 0
		if e := Check(l); e != api.ErrArg {
			t.Errorf("0 in cell %d: %v", i, e)
		}
		if i == 0 {
			continue
		}
		l = slices.Clone(whole)
		l[i].Addr = l[i-1].Addr
		if e := Check(l); e != api.ErrArg {
			t.Errorf("the address of cell %d once more: %v", i-1, e)
		}
		l = slices.Clone(whole)
		l[i-1], l[i] = l[i], l[i-1]
		if e := Check(l); e != api.ErrArg {
			t.Errorf("cells %d and %d in the other order: %v", i-1, i, e)
		}
	}
}

func TestP14_1MakeAtTheEdges(t *testing.T) {
	for i, c := range []struct{ l, want []api.Cell }{
		{nil, nil},
		{[]api.Cell{}, nil},
		{[]api.Cell{{Addr: 0, Data: 0}}, nil},
		{[]api.Cell{{Addr: 65535, Data: 0}}, nil},
		{[]api.Cell{{Addr: 65535, Data: 1}, {Addr: 0, Data: 2}}, []api.Cell{{Addr: 0, Data: 2}, {Addr: 65535, Data: 1}}},
		{[]api.Cell{{Addr: 256, Data: 1}, {Addr: 255, Data: 2}, {Addr: 1, Data: 3}}, []api.Cell{{Addr: 1, Data: 3}, {Addr: 255, Data: 2}, {Addr: 256, Data: 1}}},
		{[]api.Cell{{Addr: 1, Data: 2}, {Addr: 1, Data: 3}}, []api.Cell{{Addr: 1, Data: 3}}},
		{[]api.Cell{{Addr: 1, Data: 3}, {Addr: 1, Data: 2}}, []api.Cell{{Addr: 1, Data: 2}}},
		{[]api.Cell{{Addr: 7, Data: 1}, {Addr: 7, Data: 2}, {Addr: 7, Data: 0}}, nil},
		{[]api.Cell{{Addr: 7, Data: 0}, {Addr: 7, Data: 1}, {Addr: 7, Data: 2}}, []api.Cell{{Addr: 7, Data: 2}}},
		{[]api.Cell{{Addr: 7, Data: 2}, {Addr: 7, Data: 0}, {Addr: 7, Data: 1}}, []api.Cell{{Addr: 7, Data: 1}}},
		{[]api.Cell{{Addr: 7, Data: 2}, {Addr: 7, Data: 0}, {Addr: 7, Data: 2}, {Addr: 6, Data: 1}}, []api.Cell{{Addr: 6, Data: 1}, {Addr: 7, Data: 2}}},
		{
			[]api.Cell{{Addr: 9, Data: 1}, {Addr: 2, Data: 3}, {Addr: 9, Data: 4}, {Addr: 5, Data: 1}, {Addr: 5, Data: 0}},
			[]api.Cell{{Addr: 2, Data: 3}, {Addr: 9, Data: 4}},
		},
	} {
		same(t, strconv.Itoa(i), Make(c.l), c.want)
	}
}

func TestP14_1Make(t *testing.T) {
	for i, l := range append(lists(), great()...) {
		what := "Make of list " + strconv.Itoa(i)
		m := Make(l)
		same(t, what, m, imageOf(l).memory())
		isMemory(t, what, m)
		same(t, what+", twice", Make(m), m)
		if e := Check(m); e != api.OK {
			t.Errorf("%s: %v", what, e)
		}
	}
	for i, l := range memories() {
		same(t, "Make of memory "+strconv.Itoa(i), Make(l), l)
	}
}

func TestP14_1AnyListIsTreatedAsMakeOfIt(t *testing.T) {
	all := lists()
	for i, l := range all {
		what := "list " + strconv.Itoa(i)
		m := Make(l)
		for _, at := range places {
			if got, want := Get(l, at), Get(m, at); got != want {
				t.Fatalf("%s: Get at %d is %d, want %d", what, at, got, want)
			}
			for _, b := range []uint8{0, 1} {
				same(t, what, Put(l, at, b), Put(m, at, b))
			}
			same(t, what, Load(l, at, nil), m)
			same(t, what, Load(l, at, []uint8{5, 0, 6}), Load(m, at, []uint8{5, 0, 6}))
			if !bytes.Equal(Dump(l, at, 300), Dump(m, at, 300)) {
				t.Fatalf("%s: Dump at %d", what, at)
			}
		}
		other := all[(i*7+3)%len(all)]
		same(t, what, Diff(l, other), Diff(m, Make(other)))
		same(t, what, Diff(other, l), Diff(Make(other), m))
		same(t, what, Diff(l, m), nil)
		same(t, what, Diff(m, l), nil)
	}
}

func TestP14_2GetAtTheEdges(t *testing.T) {
	for i, c := range []struct {
		l    []api.Cell
		at   uint16
		want uint8
	}{
		{nil, 0, 0},
		{nil, 65535, 0},
		{[]api.Cell{}, 7, 0},
		{[]api.Cell{{Addr: 0, Data: 1}, {Addr: 65535, Data: 255}}, 0, 1},
		{[]api.Cell{{Addr: 0, Data: 1}, {Addr: 65535, Data: 255}}, 65535, 255},
		{[]api.Cell{{Addr: 0, Data: 1}, {Addr: 65535, Data: 255}}, 1, 0},
		{[]api.Cell{{Addr: 0, Data: 1}, {Addr: 65535, Data: 255}}, 65534, 0},
		{[]api.Cell{{Addr: 5, Data: 1}}, 4, 0},
		{[]api.Cell{{Addr: 5, Data: 1}}, 5, 1},
		{[]api.Cell{{Addr: 5, Data: 1}}, 6, 0},
		{[]api.Cell{{Addr: 5, Data: 1}}, 261, 0},
		{[]api.Cell{{Addr: 1, Data: 2}, {Addr: 1, Data: 3}}, 1, 3},
		{[]api.Cell{{Addr: 1, Data: 2}, {Addr: 1, Data: 0}}, 1, 0},
		{[]api.Cell{{Addr: 1, Data: 0}, {Addr: 1, Data: 2}}, 1, 2},
		{[]api.Cell{{Addr: 7, Data: 1}, {Addr: 7, Data: 2}, {Addr: 7, Data: 0}}, 7, 0},
		{[]api.Cell{{Addr: 7, Data: 0}, {Addr: 7, Data: 1}, {Addr: 7, Data: 2}}, 7, 2},
		{[]api.Cell{{Addr: 9, Data: 1}, {Addr: 2, Data: 3}, {Addr: 9, Data: 4}}, 9, 4},
		{[]api.Cell{{Addr: 9, Data: 1}, {Addr: 2, Data: 3}, {Addr: 9, Data: 4}}, 2, 3},
	} {
		if b := Get(c.l, c.at); b != c.want {
			t.Errorf("%d: Get(%v, %d) = %d, want %d", i, c.l, c.at, b, c.want)
		}
	}
}

func TestP14_2GetOfEachAddress(t *testing.T) {
	for i, l := range append(lists(), great()...) {
		m := imageOf(l)
		step := 1 + len(l)/50
		for at := 0; at < 65536; at += step {
			if b := Get(l, uint16(at)); b != m[at] {
				t.Fatalf("list %d: Get at %d is %d, want %d", i, at, b, m[at])
			}
		}
	}
}

func TestP14_2PutAtTheEdges(t *testing.T) {
	two := []api.Cell{{Addr: 2, Data: 3}, {Addr: 9, Data: 4}}
	for i, c := range []struct {
		l    []api.Cell
		at   uint16
		b    uint8
		want []api.Cell
	}{
		{nil, 5, 7, []api.Cell{{Addr: 5, Data: 7}}},
		{nil, 0, 1, []api.Cell{{Addr: 0, Data: 1}}},
		{nil, 65535, 255, []api.Cell{{Addr: 65535, Data: 255}}},
		// 0 where no cell is, and where one is.
		{nil, 5, 0, nil},
		{nil, 0, 0, nil},
		{[]api.Cell{}, 65535, 0, nil},
		{two, 5, 0, two},
		{two, 1, 0, two},
		{two, 65535, 0, two},
		{two, 2, 0, []api.Cell{{Addr: 9, Data: 4}}},
		{two, 9, 0, []api.Cell{{Addr: 2, Data: 3}}},
		{[]api.Cell{{Addr: 5, Data: 7}}, 5, 0, nil},
		{[]api.Cell{{Addr: 0, Data: 7}}, 0, 0, nil},
		{[]api.Cell{{Addr: 65535, Data: 7}}, 65535, 0, nil},
		{[]api.Cell{{Addr: 7, Data: 1}, {Addr: 7, Data: 2}, {Addr: 7, Data: 3}}, 7, 0, nil},
		// Another byte, and the same one.
		{two, 2, 5, []api.Cell{{Addr: 2, Data: 5}, {Addr: 9, Data: 4}}},
		{two, 9, 255, []api.Cell{{Addr: 2, Data: 3}, {Addr: 9, Data: 255}}},
		{two, 9, 4, two},
		// Ahead of the cells, between them, and behind them.
		{two, 0, 1, []api.Cell{{Addr: 0, Data: 1}, {Addr: 2, Data: 3}, {Addr: 9, Data: 4}}},
		{two, 5, 7, []api.Cell{{Addr: 2, Data: 3}, {Addr: 5, Data: 7}, {Addr: 9, Data: 4}}},
		{two, 65535, 1, []api.Cell{{Addr: 2, Data: 3}, {Addr: 9, Data: 4}, {Addr: 65535, Data: 1}}},
		// Lists that are no memories.
		{[]api.Cell{{Addr: 3, Data: 0}}, 5, 7, []api.Cell{{Addr: 5, Data: 7}}},
		{[]api.Cell{{Addr: 9, Data: 4}, {Addr: 2, Data: 1}, {Addr: 2, Data: 3}}, 5, 7, []api.Cell{{Addr: 2, Data: 3}, {Addr: 5, Data: 7}, {Addr: 9, Data: 4}}},
		{[]api.Cell{{Addr: 7, Data: 1}, {Addr: 7, Data: 2}, {Addr: 7, Data: 0}}, 7, 5, []api.Cell{{Addr: 7, Data: 5}}},
		{[]api.Cell{{Addr: 7, Data: 1}, {Addr: 7, Data: 2}, {Addr: 7, Data: 0}}, 8, 5, []api.Cell{{Addr: 8, Data: 5}}},
	} {
		same(t, strconv.Itoa(i), Put(c.l, c.at, c.b), c.want)
	}
}

func TestP14_2Put(t *testing.T) {
	for i, l := range lists() {
		what := "list " + strconv.Itoa(i)
		for _, at := range places {
			for _, b := range []uint8{0, 1, 128, 255} {
				m := imageOf(l)
				m[at] = b
				same(t, what, Put(l, at, b), m.memory())
			}
		}
	}
}

func TestP14_2PutInGreatLists(t *testing.T) {
	for i, l := range great() {
		for _, at := range []uint16{0, 7, 65535} {
			for _, b := range []uint8{0, 200} {
				m := imageOf(l)
				m[at] = b
				same(t, "great list "+strconv.Itoa(i), Put(l, at, b), m.memory())
			}
		}
	}
}

func TestP14_2LoadAtTheEdges(t *testing.T) {
	two := []api.Cell{{Addr: 2, Data: 3}, {Addr: 9, Data: 4}}
	for i, c := range []struct {
		l    []api.Cell
		at   uint16
		b    []uint8
		want []api.Cell
	}{
		// No bytes.
		{nil, 0, nil, nil},
		{nil, 65535, []uint8{}, nil},
		{two, 2, nil, two},
		{two, 9, []uint8{}, two},
		{[]api.Cell{{Addr: 9, Data: 4}, {Addr: 3, Data: 0}, {Addr: 2, Data: 3}}, 9, nil, two},
		// One byte, and some.
		{nil, 5, []uint8{7}, []api.Cell{{Addr: 5, Data: 7}}},
		{nil, 5, []uint8{0}, nil},
		{two, 9, []uint8{0}, []api.Cell{{Addr: 2, Data: 3}}},
		{nil, 0, []uint8{1, 2, 3}, []api.Cell{{Addr: 0, Data: 1}, {Addr: 1, Data: 2}, {Addr: 2, Data: 3}}},
		{nil, 7, []uint8{1, 0, 2}, []api.Cell{{Addr: 7, Data: 1}, {Addr: 9, Data: 2}}},
		{two, 1, []uint8{8, 0, 8}, []api.Cell{{Addr: 1, Data: 8}, {Addr: 3, Data: 8}, {Addr: 9, Data: 4}}},
		{two, 8, []uint8{1, 2, 0}, []api.Cell{{Addr: 2, Data: 3}, {Addr: 8, Data: 1}, {Addr: 9, Data: 2}}},
		// Up to 65535, and across it to 0.
		{nil, 65534, []uint8{1, 2}, []api.Cell{{Addr: 65534, Data: 1}, {Addr: 65535, Data: 2}}},
		{nil, 65535, []uint8{1}, []api.Cell{{Addr: 65535, Data: 1}}},
		{nil, 65535, []uint8{1, 0, 2}, []api.Cell{{Addr: 1, Data: 2}, {Addr: 65535, Data: 1}}},
		{two, 65534, []uint8{5, 6, 7, 8, 0}, []api.Cell{{Addr: 0, Data: 7}, {Addr: 1, Data: 8}, {Addr: 9, Data: 4}, {Addr: 65534, Data: 5}, {Addr: 65535, Data: 6}}},
		{[]api.Cell{{Addr: 65535, Data: 1}, {Addr: 0, Data: 2}}, 65535, []uint8{0, 0}, nil},
	} {
		same(t, strconv.Itoa(i), Load(c.l, c.at, c.b), c.want)
	}
}

// some is n bytes, one in five of which is 0.
func some(n int) []uint8 {
	b := make([]uint8, n)
	for i := range b {
		if i%5 != 2 {
			b[i] = uint8((i/3 + i*i/7) % 256)
		}
	}
	return b
}

func TestP14_2Load(t *testing.T) {
	for i, l := range lists() {
		for _, n := range []int{0, 1, 2, 255, 256, 4096, 4097} {
			for _, at := range []uint16{0, 1, 7, 255, 61440, 65534, 65535} {
				b := some(n)
				m := imageOf(l)
				for k, v := range b {
					m[(int(at)+k)%65536] = v
				}
				same(t, "list "+strconv.Itoa(i), Load(l, at, b), m.memory())
			}
		}
	}
}

func TestP14_2LoadOfMoreBytesThanAddresses(t *testing.T) {
	for _, n := range []int{65535, 65536, 65537, 65540, 131072, 131075, 200000} {
		for _, at := range []uint16{0, 1, 40000, 65535} {
			for _, l := range [][]api.Cell{nil, {{Addr: at, Data: 99}, {Addr: at - 1, Data: 98}}} {
				b := some(n)
				m := imageOf(l)
				for k, v := range b {
					m[(int(at)+k)%65536] = v
				}
				same(t, strconv.Itoa(n)+" bytes", Load(l, at, b), m.memory())
			}
		}
	}
	// The last bytes count, 0 among them.
	b := append(make([]uint8, 65536), 5, 0)
	b[0], b[1], b[2] = 1, 2, 3
	same(t, "65538 bytes", Load(nil, 65535, b), []api.Cell{{Addr: 1, Data: 3}, {Addr: 65535, Data: 5}})
}

func TestP14_2DumpAtTheEdges(t *testing.T) {
	l := []api.Cell{{Addr: 0, Data: 10}, {Addr: 2, Data: 3}, {Addr: 9, Data: 4}, {Addr: 65535, Data: 255}}
	for i, c := range []struct {
		at   uint16
		n    int
		want []uint8
	}{
		{0, 0, nil},
		{9, 0, nil},
		{0, -1, nil},
		{65535, -1, nil},
		{2, -4096, nil},
		{2, math.MinInt32, nil},
		{2, math.MinInt, nil},
		{0, 1, []uint8{10}},
		{1, 1, []uint8{0}},
		{1, 3, []uint8{0, 3, 0}},
		{2, 8, []uint8{3, 0, 0, 0, 0, 0, 0, 4}},
		{65535, 1, []uint8{255}},
		{65534, 2, []uint8{0, 255}},
		{65535, 4, []uint8{255, 10, 0, 3}},
		{65533, 5, []uint8{0, 0, 255, 10, 0}},
	} {
		if b := Dump(l, c.at, c.n); !bytes.Equal(b, c.want) {
			t.Errorf("%d: %d from %d on: %v, want %v", i, c.n, c.at, b, c.want)
		}
	}
}

func TestP14_2Dump(t *testing.T) {
	for i, l := range append(lists(), great()...) {
		m := imageOf(l)
		for _, n := range []int{-2, -1, 0, 1, 2, 255, 256, 257, 4095, 4096, 4097, 8192, 65535, 65536, 65537, 1 << 20, math.MaxInt32, math.MaxInt - 1, math.MaxInt} {
			for _, at := range []uint16{0, 1, 7, 255, 4096, 61440, 61441, 65534, 65535} {
				var want []uint8
				for k := 0; k < n && k < 4096; k++ {
					want = append(want, m[(int(at)+k)%65536])
				}
				if b := Dump(l, at, n); !bytes.Equal(b, want) {
					t.Fatalf("list %d: %d from %d on are %d bytes, want %d; or they differ", i, n, at, len(b), len(want))
				}
			}
		}
	}
}

func TestP14_3DiffAtTheEdges(t *testing.T) {
	two := []api.Cell{{Addr: 2, Data: 3}, {Addr: 9, Data: 4}}
	for i, c := range []struct{ a, b, want []api.Cell }{
		// Equal memories.
		{nil, nil, nil},
		{nil, []api.Cell{}, nil},
		{two, two, nil},
		// Memories of which one is empty.
		{nil, two, two},
		{[]api.Cell{}, two, two},
		{two, nil, []api.Cell{{Addr: 2}, {Addr: 9}}},
		{two, []api.Cell{}, []api.Cell{{Addr: 2}, {Addr: 9}}},
		{nil, []api.Cell{{Addr: 0, Data: 1}, {Addr: 65535, Data: 2}}, []api.Cell{{Addr: 0, Data: 1}, {Addr: 65535, Data: 2}}},
		{[]api.Cell{{Addr: 0, Data: 1}, {Addr: 65535, Data: 2}}, nil, []api.Cell{{Addr: 0}, {Addr: 65535}}},
		// Another byte, one more, one less.
		{two, []api.Cell{{Addr: 2, Data: 3}, {Addr: 9, Data: 5}}, []api.Cell{{Addr: 9, Data: 5}}},
		{two, []api.Cell{{Addr: 2, Data: 3}, {Addr: 5, Data: 1}, {Addr: 9, Data: 4}}, []api.Cell{{Addr: 5, Data: 1}}},
		{two, []api.Cell{{Addr: 2, Data: 3}}, []api.Cell{{Addr: 9}}},
		{two, []api.Cell{{Addr: 9, Data: 4}}, []api.Cell{{Addr: 2}}},
		{two, []api.Cell{{Addr: 2, Data: 3}, {Addr: 4, Data: 5}}, []api.Cell{{Addr: 4, Data: 5}, {Addr: 9}}},
		{two, []api.Cell{{Addr: 1, Data: 1}, {Addr: 2, Data: 4}, {Addr: 65535, Data: 9}}, []api.Cell{{Addr: 1, Data: 1}, {Addr: 2, Data: 4}, {Addr: 9}, {Addr: 65535, Data: 9}}},
		// Lists that are no memories.
		{[]api.Cell{{Addr: 3, Data: 0}}, nil, nil},
		{nil, []api.Cell{{Addr: 3, Data: 0}}, nil},
		{[]api.Cell{{Addr: 9, Data: 4}, {Addr: 2, Data: 3}}, two, nil},
		{two, []api.Cell{{Addr: 9, Data: 4}, {Addr: 2, Data: 1}, {Addr: 2, Data: 3}}, nil},
		{[]api.Cell{{Addr: 7, Data: 1}, {Addr: 7, Data: 2}, {Addr: 7, Data: 0}}, nil, nil},
		{nil, []api.Cell{{Addr: 7, Data: 1}, {Addr: 7, Data: 2}, {Addr: 7, Data: 0}}, nil},
		{[]api.Cell{{Addr: 7, Data: 0}, {Addr: 7, Data: 1}, {Addr: 7, Data: 2}}, nil, []api.Cell{{Addr: 7}}},
		{nil, []api.Cell{{Addr: 7, Data: 0}, {Addr: 7, Data: 1}, {Addr: 7, Data: 2}}, []api.Cell{{Addr: 7, Data: 2}}},
		{[]api.Cell{{Addr: 7, Data: 1}, {Addr: 7, Data: 2}}, []api.Cell{{Addr: 7, Data: 2}, {Addr: 7, Data: 1}}, []api.Cell{{Addr: 7, Data: 1}}},
		{[]api.Cell{{Addr: 7, Data: 1}}, []api.Cell{{Addr: 7, Data: 1}, {Addr: 7, Data: 0}}, []api.Cell{{Addr: 7}}},
	} {
		same(t, strconv.Itoa(i), Diff(c.a, c.b), c.want)
	}
}

func TestP14_3Diff(t *testing.T) {
	all := lists()
	for i, a := range all {
		m := imageOf(a)
		for k, b := range all {
			what := "lists " + strconv.Itoa(i) + " and " + strconv.Itoa(k)
			d := Diff(a, b)
			same(t, what, d, m.differing(imageOf(b)))
			inOrder(t, what, d)
		}
	}
}

func TestP14_3DiffOfGreatLists(t *testing.T) {
	for i, a := range great() {
		m := imageOf(a)
		for k, b := range append(great(), nil, []api.Cell{{Addr: 5, Data: 7}}) {
			what := "lists " + strconv.Itoa(i) + " and " + strconv.Itoa(k)
			same(t, what, Diff(a, b), m.differing(imageOf(b)))
			same(t, what+", the other way round", Diff(b, a), imageOf(b).differing(m))
		}
	}
}

func TestP14_4PutIsGot(t *testing.T) {
	l := []api.Cell{{Addr: 2, Data: 3}, {Addr: 9, Data: 4}, {Addr: 0x1234, Data: 9}, {Addr: 65535, Data: 1}}
	for at := range 65536 {
		for _, b := range []uint8{0, 1, 4, 255} {
			if got := Get(Put(l, uint16(at), b), uint16(at)); got != b {
				t.Fatalf("Get is %d behind Put of %d at %d", got, b, at)
			}
		}
	}
	for b := range 256 {
		for _, at := range places {
			if got := Get(Put(l, at, uint8(b)), at); got != uint8(b) {
				t.Fatalf("Get is %d behind Put of %d at %d", got, b, at)
			}
		}
	}
}

func TestP14_4PutChangesNothingElse(t *testing.T) {
	for i, l := range lists() {
		for _, at := range places {
			for _, b := range []uint8{0, 200} {
				p := Put(l, at, b)
				if got := Get(p, at); got != b {
					t.Fatalf("list %d: Get is %d behind Put of %d at %d", i, got, b, at)
				}
				for _, other := range places {
					if other != at && Get(p, other) != Get(l, other) {
						t.Fatalf("list %d: Put at %d changed %d", i, at, other)
					}
				}
				same(t, "Put back", Put(p, at, Get(l, at)), Make(l))
			}
		}
	}
}

func TestP14_4DiffStoredOneByOne(t *testing.T) {
	all := lists()
	for i, a := range all {
		for k, b := range all {
			m := a
			for _, c := range Diff(a, b) {
				m = Put(m, c.Addr, c.Data)
			}
			same(t, "lists "+strconv.Itoa(i)+" and "+strconv.Itoa(k), Make(m), Make(b))
		}
	}
}

func TestP14_4DiffBehindAList(t *testing.T) {
	all := append(lists(), great()...)
	for i, a := range all {
		b := all[(i*5+1)%len(all)]
		same(t, "list "+strconv.Itoa(i), Make(slices.Concat(a, Diff(a, b))), Make(b))
	}
}

func TestP14_4LoadIsDumped(t *testing.T) {
	for _, l := range lists() {
		for _, at := range places {
			for _, n := range []int{0, 1, 2, 100, 4096} {
				if b := Dump(Load(l, at, some(n)), at, n); !bytes.Equal(b, some(n)) {
					t.Fatalf("%d bytes from %d on aren't what was loaded", n, at)
				}
			}
			same(t, "what was dumped, loaded", Load(l, at, Dump(l, at, 4096)), Make(l))
		}
	}
}
