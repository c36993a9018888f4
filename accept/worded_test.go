package accept

import (
	"testing"

	"charabanc/api"
	"charabanc/next"
)

// worded is an interrupt by the document's words, in whole numbers: a second reader, which what Next answers is held against. In Mode 0 what comes behind the Ack is asked of package next.
func worded(t *testing.T, r api.Regs, which int, answers []uint8, rest uint8) ([]api.Cycle, api.Regs) {
	t.Helper()
	pc, sp := int(r.PC), int(r.SP)
	r.Halted, r.Late, r.IFF1 = false, false, false
	if which == 2 {
		r.IFF2 = false
	}
	r.R = uint8(int(r.R)/128*128 + (int(r.R)+1)%128)
	l := []api.Cycle{{Kind: api.Fetch, Addr: r.PC, T: 4}}
	if which == 2 {
		l = []api.Cycle{{Kind: api.Ack, Addr: r.PC, T: 6}}
	}
	vector := answers[0]
	if which == 2 && r.Mode == 0 {
		switch vector {
		case 0xcb, 0xdd, 0xed, 0xfd:
			return l, r
		}
		more, s := play(t, func(got []uint8) (api.Cycle, api.Regs, bool) { return next.After(r, vector, got) }, answers[1:], rest)
		return append(l, more...), s
	}
	l = append(l,
		api.Cycle{Kind: api.Inner, T: 1},
		api.Cycle{Kind: api.Write, Addr: uint16((sp + 65535) % 65536), Data: uint8(pc / 256), T: 3},
		api.Cycle{Kind: api.Write, Addr: uint16((sp + 65534) % 65536), Data: uint8(pc % 256), T: 3})
	to := 0x38
	if which == 1 {
		to = 0x66
	} else if r.Mode != 1 {
		at := int(r.I)*256 + int(vector)
		l = append(l,
			api.Cycle{Kind: api.Read, Addr: uint16(at), T: 3},
			api.Cycle{Kind: api.Read, Addr: uint16((at + 1) % 65536), T: 3})
		to = int(answers[1]) + 256*int(answers[2])
	}
	r.SP = uint16((sp + 65534) % 65536)
	r.PC, r.WZ = uint16(to), uint16(to)
	return l, r
}

// hold holds an interrupt against the second reader.
func hold(t *testing.T, r api.Regs, which int, answers []uint8, rest uint8) {
	t.Helper()
	wl, ws := worded(t, r, which, answers, rest)
	l, s := play(t, of(r, which), answers, rest)
	if tale(l) != tale(wl) {
		t.Errorf("%d in Mode %d with %x: %s, want %s", which, r.Mode, answers, tale(l), tale(wl))
	}
	check(t, tale(wl), s, ws)
	states := 0
	for _, c := range wl {
		states += c.T
	}
	if n := States(r, which, answers); n != states {
		t.Errorf("%d in Mode %d with %x: %d states, want %d", which, r.Mode, answers, n, states)
	}
}

func TestP13_2AllEdgesOfPCAndSP(t *testing.T) {
	for _, pc := range words {
		for _, sp := range words {
			for _, mode := range modes() {
				r := base()
				r.PC, r.SP, r.Mode = pc, sp, mode
				hold(t, r, 1, []uint8{0x3e}, 0x5a)
				for _, answers := range [][]uint8{{0xff, 0xcd, 0xab}, {0xcd, 0x34, 0x12}, {0xc9, 1, 2}, {0, 0, 0}, {0xdd, 0xff, 0xff}} {
					hold(t, r, 2, answers, 0x5a)
				}
			}
		}
	}
}

func TestP13_2AllEdgesOfIAndVector(t *testing.T) {
	for _, i := range bytes {
		for vector := range 256 {
			for _, mode := range []int{1, 2, 3, -1} {
				r := base()
				r.I, r.Mode = i, mode
				hold(t, r, 2, []uint8{uint8(vector), 0xfe, uint8(vector) ^ 0x5a}, 0xff)
			}
		}
	}
}

func TestP13_2EveryWordOfATable(t *testing.T) {
	r := base()
	r.Mode = 2
	for w := range 65536 {
		got := []uint8{0xfe, 0, 0, 0, uint8(w % 256), uint8(w / 256)}
		if _, s, done := Next(r, 2, got); !done || int(s.PC) != w || int(s.WZ) != w {
			t.Fatalf("%04x: %04x %04x %v", w, s.PC, s.WZ, done)
		}
	}
}

func TestP13_2EveryVectorInMode0(t *testing.T) {
	for vector := range 256 {
		for _, f := range []uint16{0, 255} {
			for _, at := range words {
				r := base()
				r.AF, r.PC, r.SP = 0xa500+f, at, 0x8000-at
				hold(t, r, 2, []uint8{uint8(vector), 0x34, 0xfe, 0x12}, 0x5a)
				r.BC, r.R, r.Late, r.Halted, r.IFF2 = 0x0100, 127, false, false, false
				hold(t, r, 2, []uint8{uint8(vector), 0x80}, 0)
			}
		}
	}
}

func TestP13_2LatchesAheadAndRefresh(t *testing.T) {
	for n := range 16 {
		for _, c := range refreshes {
			for _, mode := range []int{0, 1, 2, 3, -1} {
				r := base()
				r.R, r.Mode = c.was, mode
				r.Halted, r.Late, r.IFF1, r.IFF2 = n&1 != 0, n&2 != 0, n&4 != 0, n&8 != 0
				for _, vector := range []uint8{0, 0x3e, 0x76, 0xf3, 0xfb, 0xff, 0xcb, 0xdd, 0xed, 0xfd} {
					hold(t, r, 1, []uint8{vector, 1, 2}, vector)
					hold(t, r, 2, []uint8{vector, 1, 2}, vector)
				}
			}
		}
	}
}
