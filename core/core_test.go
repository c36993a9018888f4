package core

import (
	"fmt"
	"math"
	"strings"
	"testing"

	"charabanc/api"
	"charabanc/cycle"
)

func TestP18_1New(t *testing.T) {
	for _, r := range []api.Regs{
		{},
		base(),
		{PC: 5, Halted: true},
		{PC: 65535, IFF1: true, IFF2: true, Late: true, Mode: 2},
		{PC: 1, Halted: true, IFF1: true, Mode: 1, R: 255, I: 255},
		{SP: 0x100, Mode: -1},
		{WZ: 0x1234, AF: 0xffff, Late: true, Halted: true},
	} {
		c := New(r)
		check(t, "New", c, Core{R: r, A: cycle.At{C: fetch(r.PC)}})
		if !Fresh(c) {
			t.Errorf("%s isn't fresh", shown(c))
		}
	}
}

func TestP18_1Fresh(t *testing.T) {
	for _, c := range []struct {
		got       string
		k, waited int
		want      bool
	}{
		{"", 0, 0, true},
		{"00", 0, 0, false},
		{"3e 07", 0, 0, false},
		{"", 1, 0, false},
		{"", 3, 0, false},
		{"", -1, 0, false},
		{"", 256, 0, false},
		{"", math.MinInt, 0, false},
		{"", math.MaxInt, 0, false},
		{"", 0, 1, false},
		{"", 0, -1, false},
		{"", 0, 1 << 32, false},
		{"", 0, math.MaxInt, false},
		{"", 1, -1, false},
		{"", -1, 1, false},
		{"00", 1, 1, false},
	} {
		for which := -1; which <= 3; which++ {
			for _, x := range []api.Cycle{{}, fetch(5), {Kind: api.Ack, Addr: 5, T: 6}, {Kind: api.Inner, T: 5}, {Kind: 9, T: -1}} {
				for n := range 16 {
					p := Core{R: base(), Which: which, Got: bytesOf(c.got), A: cycle.At{C: x, K: c.k, Waited: c.waited}}
					p.Nmi, p.Was, p.Off = n&1 != 0, n&2 != 0, n&4 != 0
					if n&8 != 0 {
						p.Byte = 7
					}
					if Fresh(guarded(p)) != c.want {
						t.Errorf("%s: %v", shown(p), !c.want)
					}
				}
			}
		}
	}
	if !Fresh(Core{}) || !Fresh(Core{Got: []uint8{}}) || !Fresh(Core{Got: []uint8{1, 2}[:0]}) {
		t.Error("no answers")
	}
}

// somewhere is processors under way: at the beginning, within a cycle and at its end, in every operation, and in cycles that may not be.
func somewhere() []Core {
	r := base()
	r.IFF1, r.IFF2, r.Mode = true, true, 1
	halted := r
	halted.Halted, halted.Late = true, true
	l := []Core{
		New(r),
		New(halted),
		under(r, 0, "", fetch(0x123), 3),
		under(r, 0, "3e", api.Cycle{Kind: api.Read, Addr: 0x124, T: 3}, 2),
		under(r, 0, "c5 00", api.Cycle{Kind: api.Write, Addr: 0x7fff, Data: 0x12, T: 3}, 1),
		under(halted, 1, "00", api.Cycle{Kind: api.Inner, T: 1}, 0),
		under(halted, 2, "", api.Cycle{Kind: api.Ack, Addr: 0x123, T: 6}, 4),
		under(r, 7, "00 01 02", api.Cycle{Kind: api.In, Addr: 5, T: 5}, 4),
		{},
		under(r, 0, "dd", api.Cycle{Kind: 8, T: 4}, 3),
	}
	l[3].Byte, l[4].A.Waited = 0x5a, 3
	return l
}

func TestP18_2Reset(t *testing.T) {
	for _, c := range somewhere() {
		want := c.R
		want.PC, want.I, want.R, want.Mode = 0, 0, 0, 0
		want.IFF1, want.IFF2, want.Halted, want.Late = false, false, false, false
		for _, l := range allLines() {
			if !l.Reset {
				continue
			}
			for n := range 8 {
				c.Nmi, c.Was, c.Off = n&1 != 0, n&2 != 0, n&4 != 0
				for _, b := range []uint8{0, 0x76, 0xff} {
					what := fmt.Sprintf("%s with %+v", shown(c), l)
					check(t, what, tick(t, c, l, b), Core{R: want, A: cycle.At{C: fetch(0)}, Was: l.Nmi})
				}
			}
		}
	}
}

// A reset that lasts begins anew in each state, and what comes behind it is the instruction at 0.
func TestP18_2ResetThatLasts(t *testing.T) {
	c := New(api.Regs{PC: 0x1234, SP: 0x100})
	words, c := walk(t, c, script("5*. 7*r 7*."), bytesOf("c5 3e 07"))
	if words != ". . F1234 . .! . . . . . . . . . F0000 .! . . R0001!" {
		t.Error(words)
	}
	checkRegs(t, words, c.R, api.Regs{PC: 2, SP: 0x100, R: 1, AF: 0x700})
}

// marks is the last word of shown, or "-".
func marks(c Core) string {
	s := shown(c)
	if m := s[strings.LastIndex(s, " ")+1:]; m != "" {
		return m
	}
	return "-"
}

func TestP18_2NmiLine(t *testing.T) {
	for _, c := range []struct{ lines, marks string }{
		{". . .", "-,-,-"},
		{"n n n", "nw,nw,nw"},
		{". n .", "-,nw,n"},
		{"n . n", "nw,n,nw"},
		{"r . .", "-,-,-"},
		{"rn n n .", "w,w,w,-"}, // the line was active at the reset already
		{"rn . n", "w,-,nw"},
		{"n r .", "nw,-,-"},
		{"n rn n", "nw,w,w"},
		{"n . rn n", "nw,n,w,w"},
		{"n . r n", "nw,n,-,nw"},
		// Behind 4 states the instruction is over, and the NMI that waits begins.
		{". n . .", "-,nw,n,-"},
		{"n . n .", "nw,n,nw,-"},
		{"n . . .", "nw,n,n,-"},
		{". . . n", "-,-,-,w"},
		{"n n n n n n", "nw,nw,nw,w,w,w"},
		{"n n n n . n", "nw,nw,nw,w,-,nw"},
		{"n . n . n .", "nw,n,nw,-,nw,n"},
		{". . . nw . n", "-,-,-,w,-,nw"},
		// While the bus is let go, nothing else happens.
		{"3*. b nb b b . .", "-,-,-,o,nwo,no,no,n,n"},
		{"3*. b nb nb n n 3*.", "-,-,-,o,nwo,nwo,nw,nw,n,n,-"},
		{"3*. b n n . n .", "-,-,-,o,nw,nw,n,nw,-"},
		{"3*. b nb b nb . 4*.", "-,-,-,o,nwo,no,nwo,n,n,n,n,-"},
		{"3*. nb nb b nb . .", "-,-,-,wo,wo,o,nwo,n,n"},
		{"3*. b rnb nb", "-,-,-,o,w,w"},
	} {
		n := New(api.Regs{})
		got := ""
		for k, l := range script(c.lines) {
			n = tick(t, n, l, 0)
			if k > 0 {
				got += ","
			}
			got += marks(n)
		}
		if got != c.marks {
			t.Errorf("%s: %s, want %s", c.lines, got, c.marks)
		}
	}
}

// An NMI that rises while another one waits comes with it; one that rises while another one is accepted comes behind it.
func TestP18_2NmisThatFollowEachOther(t *testing.T) {
	for _, c := range []struct {
		lines string
		which []int // of the operations, in their order
	}{
		{"99*.", []int{0, 0, 0, 0}},
		{"99*n", []int{0, 1, 0, 0}},
		{"n 99*.", []int{0, 1, 0, 0}},
		{"n . n 99*.", []int{0, 1, 0, 0}},
		{"n . . . n 99*.", []int{0, 1, 1, 0}},
		{"n 13*. n 99*.", []int{0, 1, 1, 0}},
		{"n 14*. n 99*.", []int{0, 1, 0, 1}},
		{"n 17*. n 99*.", []int{0, 1, 0, 1}},
		{"n 18*. n 99*.", []int{0, 1, 0, 0, 1}},
		{"3*. n 99*.", []int{0, 1, 0, 0}},
		{"4*. n 99*.", []int{0, 0, 1, 0}},
		{"4*. n . n . . n 99*.", []int{0, 0, 1, 1, 0}},
		{"4*. n . n . n 99*.", []int{0, 0, 1, 1, 0}},
		{"4*. n . n 99*.", []int{0, 0, 1, 0, 0}},
	} {
		n := New(api.Regs{SP: 0x100})
		var got []int
		for _, l := range script(c.lines) {
			if Fresh(n) {
				got = append(got, n.Which)
			}
			n = tick(t, n, l, 0)
		}
		for k, want := range c.which {
			if got[k] != want {
				t.Errorf("%s: %v, want %v", c.lines, got, c.which)
				break
			}
		}
	}
}

func TestP18_2Off(t *testing.T) {
	for _, c := range somewhere() {
		for _, l := range allLines() {
			if l.Reset {
				continue
			}
			for n := range 4 {
				c.Nmi, c.Was, c.Off = n&1 != 0, n&2 != 0, true
				want := c
				want.Off = l.Bus
				want.Nmi = c.Nmi || l.Nmi && !c.Was
				want.Was = l.Nmi
				what := fmt.Sprintf("%s with %+v", shown(c), l)
				check(t, what, tick(t, c, l, 0x5a), want)
				if x, asks := Asks(c, l); asks || x != (api.Cycle{}) {
					t.Errorf("%s: asks for %+v", what, x)
				}
				if Ends(c, l, 0x5a) {
					t.Errorf("%s: ends", what)
				}
			}
		}
	}
}

// states is what shown says of a processor behind each of some states.
type states struct {
	what  string
	from  Core
	lines string
	b     uint8
	want  []string
}

func (s states) run(t *testing.T) {
	t.Helper()
	c := s.from
	for k, l := range script(s.lines) {
		n := tick(t, c, l, s.b)
		if got := shown(n); got != s.want[k] {
			t.Errorf("%s, state %d: %q, want %q", s.what, k, got, s.want[k])
		}
		c = n
	}
	if len(s.want) != len(script(s.lines)) {
		t.Errorf("%s: %d states, want %d", s.what, len(script(s.lines)), len(s.want))
	}
}

func TestP18_2StatesByHand(t *testing.T) {
	r := base()
	for _, s := range []states{
		{"a Fetch behind which a Read comes", New(r), "6*.", 0x3e, []string{
			"0 [] F0123 1+0 00 ", "0 [] F0123 2+0 00 ", "0 [] F0123 3+0 3e ", "0 [3e] R0124 0+0 00 ",
			"0 [3e] R0124 1+0 00 ", "0 [3e] R0124 2+0 00 "}},
		{"a Fetch that is waited", New(r), "w w . w w w .", 0x3e, []string{
			"0 [] F0123 1+0 00 ", "0 [] F0123 1+1 00 ", "0 [] F0123 2+1 00 ", "0 [] F0123 3+1 3e ",
			"0 [3e] R0124 0+0 00 ", "0 [3e] R0124 1+0 00 ", "0 [3e] R0124 2+0 00 "}},
		{"a Fetch behind which an Inner comes", New(r), "5*.", 0xc5, []string{
			"0 [] F0123 1+0 00 ", "0 [] F0123 2+0 00 ", "0 [] F0123 3+0 c5 ", "0 [c5] 1 0+0 00 ", "0 [c500] W7fff=12 0+0 00 "}},
		{"a Fetch behind which the operation is complete", New(r), "5*.", 0, []string{
			"0 [] F0123 1+0 00 ", "0 [] F0123 2+0 00 ", "0 [] F0123 3+0 00 ", "0 [] F0124 0+0 00 ", "0 [] F0124 1+0 00 "}},
		{"a Read that is waited, in the end", under(r, 0, "3e", api.Cycle{Kind: api.Read, Addr: 0x124, T: 3}, 1), "w w . .", 0x5a, []string{
			"0 [3e] R0124 1+1 00 ", "0 [3e] R0124 1+2 00 ", "0 [3e] R0124 2+2 00 ", "0 [] F0125 0+0 00 "}},
		{"a Read behind which a Read comes", under(r, 0, "21", api.Cycle{Kind: api.Read, Addr: 0x124, T: 3}, 1), "w . w .", 0x5a, []string{
			"0 [21] R0124 1+1 00 ", "0 [21] R0124 2+1 00 ", "0 [215a] R0125 0+0 00 ", "0 [215a] R0125 1+0 00 "}},
		{"a Write, for which Byte is 0", under(r, 0, "c500", api.Cycle{Kind: api.Write, Addr: 0x7fff, Data: 0x12, T: 3}, 0), ". w . . . . .", 0x5a, []string{
			"0 [c500] W7fff=12 1+0 00 ", "0 [c500] W7fff=12 1+1 00 ", "0 [c500] W7fff=12 2+1 00 ", "0 [c50000] W7ffe=34 0+0 00 ",
			"0 [c50000] W7ffe=34 1+0 00 ", "0 [c50000] W7ffe=34 2+0 00 ", "0 [] F0124 0+0 00 "}},
		{"an In that is waited", under(r, 0, "db5a", api.Cycle{Kind: api.In, Addr: 0xa55a, T: 4}, 0), "w w w . .", 0x77, []string{
			"0 [db5a] Ia55a 1+0 00 ", "0 [db5a] Ia55a 2+0 00 ", "0 [db5a] Ia55a 2+1 00 ", "0 [db5a] Ia55a 3+1 00 ", "0 [] F0125 0+0 00 "}},
		{"an Out that is waited", under(r, 0, "d35a", api.Cycle{Kind: api.Out, Addr: 0xa55a, Data: 0xa5, T: 4}, 2), "w . .", 0x77, []string{
			"0 [d35a] Oa55a=a5 2+1 00 ", "0 [d35a] Oa55a=a5 3+1 00 ", "0 [] F0125 0+0 00 "}},
		{"an Ack that is waited", under(r, 2, "", api.Cycle{Kind: api.Ack, Addr: 0x123, T: 6}, 2), "w w . . .", 0xff, []string{
			"2 [] A0123 3+0 00 ", "2 [] A0123 3+1 00 ", "2 [] A0123 4+1 00 ", "2 [] A0123 5+1 ff ", "2 [ff] 1 0+0 00 "}},
		{"an Inner, which isn't", under(r, 0, "09", api.Cycle{Kind: api.Inner, T: 7}, 4), "w w w", 0xff, []string{
			"0 [09] 7 5+0 00 ", "0 [09] 7 6+0 00 ", "0 [] F0124 0+0 00 "}},
		{"a Write of more states, with a byte that was there", Core{R: r, Got: bytesOf("c500"), A: cycle.At{C: api.Cycle{Kind: api.Write, T: 5}, K: 1}, Byte: 9}, ". . . .", 0x5a, []string{
			"0 [c500] {Kind:3 Addr:0 Data:0 T:5} 2+0 09 ", "0 [c500] {Kind:3 Addr:0 Data:0 T:5} 3+0 00 ", "0 [c500] {Kind:3 Addr:0 Data:0 T:5} 4+0 00 ", "0 [c50000] W7ffe=34 0+0 00 "}},
		{"an Out of more states, with a byte that was there", Core{R: r, Got: bytesOf("c500"), A: cycle.At{C: api.Cycle{Kind: api.Out, T: 5}, K: 3}, Byte: 9}, ". .", 0x5a, []string{
			"0 [c500] {Kind:5 Addr:0 Data:0 T:5} 4+0 00 ", "0 [c50000] W7ffe=34 0+0 00 "}},
		{"a Read of more states, with a byte that was there", Core{R: r, Got: bytesOf("21"), A: cycle.At{C: api.Cycle{Kind: api.Read, T: 5}, K: 1}, Byte: 9}, ". . . .", 0x5a, []string{
			"0 [21] {Kind:2 Addr:0 Data:0 T:5} 2+0 09 ", "0 [21] {Kind:2 Addr:0 Data:0 T:5} 3+0 5a ", "0 [21] {Kind:2 Addr:0 Data:0 T:5} 4+0 5a ", "0 [215a] R0125 0+0 00 "}},
		{"an Inner with a byte that was there", Core{R: r, A: cycle.At{C: api.Cycle{Kind: api.Inner, T: 2}}, Byte: 0x3e}, ". .", 0x5a, []string{
			"0 [] 2 1+0 3e ", "0 [3e] R0124 0+0 00 "}},
		{"more answers than are asked for", under(r, 0, "00 01 02", api.Cycle{Kind: api.Read, Addr: 7, T: 3}, 2), ". .", 0x5a, []string{
			"0 [] F0124 0+0 00 ", "0 [] F0124 1+0 00 "}},
	} {
		s.run(t)
	}
}

// kinds is cycles of all kinds that have more states behind the one in which the byte is transferred; of that one the number counted from 0.
var kinds = []struct{ kind, states, moved int }{
	{api.Fetch, 4, 2}, {api.Read, 4, 2}, {api.Write, 4, 2}, {api.In, 5, 3}, {api.Out, 5, 3}, {api.Ack, 6, 4}, {api.Inner, 9, -1},
}

func TestP18_2TheByteInEachKindOfCycle(t *testing.T) {
	for _, x := range kinds {
		for k := range x.states - 1 {
			for _, b := range []uint8{0, 1, 0x5a, 0xff} {
				for _, l := range []string{".", "b", "i"} {
					c := Core{R: base(), Got: []uint8{0x3e}, A: cycle.At{C: api.Cycle{Kind: x.kind, Addr: 5, Data: 6, T: x.states}, K: k, Waited: 2}, Byte: 0x33}
					want := c
					want.A.K++
					if k == x.moved {
						want.Byte = b
					}
					if k == x.moved && (x.kind == api.Write || x.kind == api.Out) {
						want.Byte = 0
					}
					check(t, shown(c), tick(t, c, lit(l), b), want)
					y, asks := Asks(c, lit(l))
					if asks != (k == x.moved) || asks && y != c.A.C || !asks && y != (api.Cycle{}) {
						t.Errorf("%s: Asks is %+v, %v", shown(c), y, asks)
					}
					if Ends(c, lit(l), b) {
						t.Errorf("%s: ends", shown(c))
					}
				}
			}
		}
	}
}

func TestP18_2WaitStatesInEachKindOfCycle(t *testing.T) {
	for _, x := range kinds {
		for k := range x.states - 1 {
			c := Core{R: base(), Got: []uint8{0x3e}, A: cycle.At{C: api.Cycle{Kind: x.kind, Addr: 5, Data: 6, T: x.states}, K: k}, Byte: 0x33}
			want := c
			if x.moved > 0 && k == x.moved-1 {
				want.A.Waited = 1
			} else {
				want.A.K++
			}
			if k == x.moved {
				want.Byte = 0x44
			}
			if k == x.moved && (x.kind == api.Write || x.kind == api.Out) {
				want.Byte = 0
			}
			check(t, shown(c), tick(t, c, lit("w"), 0x44), want)
			if _, asks := Asks(c, lit("w")); asks != (k == x.moved) {
				t.Errorf("%s: Asks is %v", shown(c), asks)
			}
		}
	}
}

// Behind the last state of an operation, the next one begins.
func TestP18_2WhichComesNext(t *testing.T) {
	for _, c := range []struct {
		code       uint8
		iff1, wait bool // wait: an NMI waits
		line       string
		which      int
		cycle      string
		marks      string
	}{
		{0x00, false, false, ".", 0, "F0124", ""},
		{0x00, true, false, ".", 0, "F0124", ""},
		{0x00, false, false, "i", 0, "F0124", ""},
		{0x00, true, false, "i", 2, "A0124", ""},
		{0x00, true, false, "ib", 2, "A0124", "o"},
		{0x00, false, true, ".", 1, "F0124", ""},
		{0x00, true, true, ".", 1, "F0124", ""},
		{0x00, true, true, "i", 1, "F0124", ""},
		{0x00, true, true, "ib", 1, "F0124", "o"},
		{0x00, true, true, "n", 1, "F0124", "w"},
		{0x00, false, false, "n", 1, "F0124", "w"},
		{0x00, true, false, "in", 1, "F0124", "w"},
		{0x00, true, false, "inb", 1, "F0124", "wo"},
		{0xfb, false, false, "i", 0, "F0124", ""}, // EI: Late is set
		{0xfb, true, false, "i", 0, "F0124", ""},
		{0xfb, false, true, "i", 1, "F0124", ""},
		{0xf3, true, false, "i", 0, "F0124", ""},
		{0xf3, true, true, "i", 1, "F0124", ""},
		{0x76, true, false, "i", 2, "A0124", ""},
		{0x76, true, false, ".", 0, "F0124", ""},
		{0x76, true, true, ".", 1, "F0124", ""},
	} {
		for mode := -1; mode <= 3; mode++ {
			r := base()
			r.IFF1, r.Mode, r.Late = c.iff1, mode, true
			n := under(r, 0, "", fetch(0x123), 3)
			n.Byte, n.Nmi = c.code, c.wait
			behind := tick(t, n, lit(c.line), 0x99)
			if want := fmt.Sprintf("%d [] %s 0+0 00 %s", c.which, c.cycle, c.marks); shown(behind) != want {
				t.Errorf("%02x with %s in Mode %d: %q, want %q", c.code, c.line, mode, shown(behind), want)
			}
			r.PC, r.R, r.Late = 0x124, 6, c.code == 0xfb
			r.IFF1 = c.iff1 && c.code != 0xf3 || c.code == 0xfb
			r.IFF2 = c.code == 0xfb
			r.Halted = c.code == 0x76
			checkRegs(t, shown(n), behind.R, r)
			if !Fresh(behind) {
				t.Errorf("%s isn't fresh", shown(behind))
			}
		}
	}
}

// An NMI waits through an operation, and is what comes behind it; what comes behind an interrupt may be one, too.
func TestP18_2NmiWaitsForTheEnd(t *testing.T) {
	r := api.Regs{SP: 0x100, IFF1: true, Mode: 1}
	for _, c := range []struct {
		lines, answers, words, behind string
	}{
		{"n 16*.", "cd 34 12", ". . F0000 .! . . R0001! . . R0002 .! . . W00ff=00! . . W00fe=03!", "1 [] F1234 0+0 00 "},
		{"10*. n 5*. i", "cd 34 12", ". . F0000 .! . . R0001! . . R0002 .! . . W00ff=00! . . W00fe=03!", "1 [] F1234 0+0 00 "},
		{"16*. i", "cd 34 12", ". . F0000 .! . . R0001! . . R0002 .! . . W00ff=00! . . W00fe=03!", "2 [] A1234 0+0 00 "},
		{"16*i .", "cd 34 12", ". . F0000 .! . . R0001! . . R0002 .! . . W00ff=00! . . W00fe=03!", "0 [] F1234 0+0 00 "},
		// What is served is served with interrupts shut; an NMI isn't asked whether it may.
		{"25*i", "00 ff 00 00", ". . F0000 .! . . . . A0001 . .! . . W00ff=00! . . W00fe=01! . . F0038 .! . . F0039 .!", "0 [] F003a 0+0 00 "},
		{"4*i 13*. 8*n", "00 ff 00 00", ". . F0000 .! . . . . A0001 . .! . . W00ff=00! . . W00fe=01! . . F0038 .! . . F0039 .", "1 [00] 1 0+0 00 w"},
	} {
		words, n := walk(t, New(r), script(c.lines), bytesOf(c.answers))
		if words != c.words || shown(n) != c.behind {
			t.Errorf("%s: %s and %q, want %s and %q", c.lines, words, shown(n), c.words, c.behind)
		}
	}
}

func TestP18_2BusAtTheEndOfACycle(t *testing.T) {
	r := base()
	r.SP = 0x100
	for _, c := range []struct {
		from   Core
		b      uint8
		off    bool // is what Ends tells, too
		behind string
	}{
		{under(r, 0, "", fetch(0x123), 3), 0x3e, true, "0 [3e] R0124 0+0 00 "},
		{under(r, 0, "", fetch(0x123), 3), 0xdd, true, "0 [dd] F0124 0+0 00 "},
		{under(r, 0, "", fetch(0x123), 3), 0x02, true, "0 [02] W1234=a5 0+0 00 "},
		{under(r, 0, "", fetch(0x123), 3), 0x00, true, "0 [] F0124 0+0 00 "},
		{under(r, 0, "", fetch(0x123), 3), 0x03, false, "0 [03] 2 0+0 00 "},
		{under(r, 0, "", fetch(0x123), 3), 0xc5, false, "0 [c5] 1 0+0 00 "},
		{under(r, 0, "", fetch(0x123), 3), 0x09, false, "0 [09] 7 0+0 00 "},
		{under(r, 1, "", fetch(0x123), 3), 0x00, false, "1 [00] 1 0+0 00 "},
		{under(r, 0, "c5", api.Cycle{Kind: api.Inner, T: 1}, 0), 0x00, true, "0 [c500] W00ff=12 0+0 00 "},
		{under(r, 0, "03", api.Cycle{Kind: api.Inner, T: 2}, 1), 0x00, true, "0 [] F0124 0+0 00 "},
		{under(r, 0, "18", api.Cycle{Kind: api.Read, Addr: 0x124, T: 3}, 2), 0xfe, false, "0 [18fe] 5 0+0 00 "},
		{under(r, 0, "20", api.Cycle{Kind: api.Read, Addr: 0x124, T: 3}, 2), 0xfe, false, "0 [20fe] 5 0+0 00 "},
		{under(r, 0, "28", api.Cycle{Kind: api.Read, Addr: 0x124, T: 3}, 2), 0xfe, true, "0 [] F0125 0+0 00 "},
		{under(r, 0, "dd cb 05", api.Cycle{Kind: api.Read, Addr: 0x126, T: 3}, 2), 0x06, false, "0 [ddcb0506] 2 0+0 00 "},
		{under(r, 0, "34", api.Cycle{Kind: api.Read, Addr: 0x9abc, T: 3}, 2), 0x01, false, "0 [3401] 1 0+0 00 "},
		{under(r, 0, "7e", api.Cycle{Kind: api.Read, Addr: 0x9abc, T: 3}, 2), 0x01, true, "0 [] F0124 0+0 00 "},
		{under(r, 0, "d3 10", api.Cycle{Kind: api.Out, Addr: 0xa510, Data: 0xa5, T: 4}, 3), 0x01, true, "0 [] F0125 0+0 00 "},
		{under(r, 0, "e3 01 02 00 00", api.Cycle{Kind: api.Write, Addr: 0x100, Data: 0xbc, T: 3}, 2), 0x01, false, "0 [e30102000000] 2 0+0 00 "},
	} {
		last := c.from
		if last.A.C.Kind == api.Fetch {
			last.Byte = c.b // was taken a state ago
			c.b ^= 0xff
		}
		for _, line := range []string{".", "b", "wb", "w"} {
			want := c.behind
			if c.off && lit(line).Bus {
				want += "o"
			}
			if got := shown(tick(t, last, lit(line), c.b)); got != want {
				t.Errorf("%s with %s: %q, want %q", shown(last), line, got, want)
			}
			if Ends(last, lit(line), c.b) != c.off {
				t.Errorf("%s with %s: Ends is %v", shown(last), line, !c.off)
			}
		}
	}
}

// While a cycle is under way, the bus is asked for in vain, and what asks for it no longer at its end doesn't get it.
func TestP18_2BusWithinACycle(t *testing.T) {
	for _, c := range []struct{ lines, words, behind string }{
		{"b b b .", ". . F0000 .!", "0 [] F0001 0+0 00 "},
		{"b b b b", ". . F0000 .!", "0 [] F0001 0+0 00 o"},
		{". . . b", ". . F0000 .!", "0 [] F0001 0+0 00 o"},
		{". . . b b b .", ". . F0000 .! - - -", "0 [] F0001 0+0 00 "},
		{". . . b . b .", ". . F0000 .! - . .", "0 [] F0001 2+0 00 "},
		{"4*b . 4*b .", ". . F0000 .! - . . F0001 .! -", "0 [] F0002 0+0 00 "},
		{". wb wb b b b b wb", ". w w . F0000 .! - -", "0 [] F0001 0+0 00 o"},
	} {
		words, n := walk(t, New(api.Regs{}), script(c.lines), nil)
		if words != c.words || shown(n) != c.behind {
			t.Errorf("%s: %s and %q, want %s and %q", c.lines, words, shown(n), c.words, c.behind)
		}
	}
}

// A processor in a cycle that may not be, or in a state that there is none of, goes on no more; it notes the NMI line.
func TestP18_2CyclesThatMayNotBe(t *testing.T) {
	for _, a := range []cycle.At{
		{}, {C: fetch(5), K: 4}, {C: fetch(5), K: -1}, {C: fetch(5), K: math.MaxInt}, {C: fetch(5), K: math.MinInt},
		{C: api.Cycle{Kind: api.Fetch, T: 2}, K: 1}, {C: api.Cycle{Kind: 8, T: 4}, K: 3}, {C: api.Cycle{Kind: -1, T: 4}, K: 3},
		{C: api.Cycle{Kind: api.Inner, T: 33}, K: 32}, {C: api.Cycle{Kind: api.Inner}, K: -1}, {C: api.Cycle{Kind: api.Ack, T: 4}, K: 3},
		{C: api.Cycle{Kind: api.Out, T: 3}, K: 2}, {C: api.Cycle{Kind: api.Write, T: math.MaxInt}, K: 2}, {C: api.Cycle{Kind: api.Read, T: math.MinInt}},
	} {
		for _, got := range []string{"", "00", "3e", "3e 07", "dd dd dd", "01 02 03 04 05 06 07 08 09"} {
			for which := -1; which <= 3; which++ {
				for _, l := range allLines() {
					if l.Reset {
						continue
					}
					c := Core{R: base(), Which: which, Got: bytesOf(got), A: a, Byte: 0x5a}
					want := c
					want.Nmi, want.Was = l.Nmi, l.Nmi
					check(t, shown(c), tick(t, c, l, 0x77), want)
					if x, asks := Asks(c, l); asks || x != (api.Cycle{}) || Ends(c, l, 0x77) {
						t.Errorf("%s: %+v, %v", shown(c), x, asks)
					}
				}
			}
		}
	}
}

// What Which is but 1 and 2 is an instruction, and the next one is told by 0.
func TestP18_2OtherNumbersAreInstructions(t *testing.T) {
	for _, which := range []int{-1, 3, 4, 255, 257, 258, 1 << 32, math.MaxInt, math.MinInt} {
		c := under(base(), which, "", fetch(0x123), 0)
		words, n := walk(t, c, script("7*."), bytesOf("3e 07"))
		if words != ". . F0123 .! . . R0124!" || shown(n) != "0 [] F0125 0+0 00 " {
			t.Errorf("%d: %s and %s", which, words, shown(n))
		}
	}
}

func TestP18_3AsksAndEndsAtAReset(t *testing.T) {
	for _, c := range somewhere() {
		for k := range 7 {
			c.A.K = k
			for n := range 2 {
				c.Off = n != 0
				for _, l := range allLines() {
					if !l.Reset && !c.Off {
						continue
					}
					if x, asks := Asks(c, l); asks || x != (api.Cycle{}) {
						t.Errorf("%s with %+v asks for %+v", shown(c), l, x)
					}
					if Ends(c, l, 0) {
						t.Errorf("%s with %+v ends", shown(c), l)
					}
				}
			}
		}
	}
}

// The byte that comes in the last state plays its part in what comes next.
func TestP18_3EndsHangsOnTheByte(t *testing.T) {
	// Of what is read in real cycles, no byte decides: these go on within, or don't, whatever they read.
	for _, c := range []struct {
		got  string
		want bool
	}{
		{"3e", true}, {"36", true}, {"18", false}, {"10 00", false}, {"20", false}, {"28", true}, {"21", true}, {"21 34", true},
		{"cd", true}, {"cd 34", false}, {"c4", true}, {"c4 34", false}, {"cc 34", true}, {"e3", true}, {"e3 34", false},
		{"dd 36", true}, {"dd 36 05", false}, {"dd 34", false}, {"dd cb", true}, {"dd cb 05", false},
	} {
		for b := range 256 {
			n := under(base(), 0, c.got, api.Cycle{Kind: api.Read, Addr: 1, T: 3}, 2)
			if Ends(n, Lines{}, uint8(b)) != c.want {
				t.Errorf("%s %02x: %v", c.got, b, !c.want)
			}
		}
	}
	// A Fetch of 3 states takes the code in its last one.
	for b, want := range map[uint8]bool{0: true, 0x3e: true, 0x03: false, 0xc5: false, 0xdd: true, 0xc9: true, 0xc0: false, 0xff: false, 0x34: true, 0xf9: false} {
		for _, was := range []uint8{0, 0xc5} {
			n := under(base(), 0, "", api.Cycle{Kind: api.Fetch, Addr: 1, T: 3}, 2)
			n.Byte = was
			if Ends(n, Lines{}, b) != want {
				t.Errorf("%02x: %v", b, !want)
			}
		}
	}
}

func TestP18_2TheExample(t *testing.T) {
	c := New(api.Regs{})
	for k := range 4 {
		if k > 0 && Fresh(c) || c.R.PC != 0 {
			t.Errorf("state %d: %s", k, shown(c))
		}
		c = tick(t, c, Lines{}, 0)
	}
	check(t, "behind 4 states", c, Core{R: api.Regs{PC: 1, R: 1}, A: cycle.At{C: fetch(1)}})
	if !Fresh(c) {
		t.Error("it doesn't begin")
	}
}
