package ctl_test

import (
	"fmt"
	"math"
	"slices"
	"strings"
	"testing"

	"magneto/api"
	"magneto/count"
	"magneto/ctl"
	"magneto/frame"
)

func short(id int, data ...byte) api.Frame { return carrying(api.Frame{ID: id}, data) }

func long(id int, data ...byte) api.Frame { return carrying(api.Frame{ID: id, Ext: true}, data) }

func carrying(f api.Frame, data []byte) api.Frame {
	f.Len = len(data)
	copy(f.Data[:], data)
	return f
}

// remote is a frame that asks for so many bytes.
func remote(f api.Frame, length int) api.Frame {
	f.Rtr, f.Len = true, length
	return f
}

// modeWords are the modes' names, as their numbers are counted.
var modeWords = []string{"Joining", "Idle", "InFrame", "ErrorFlag", "PassiveFlag", "OverFlag", "Waiting", "Closing", "Pause", "Suspend", "BusOff"}

// state is what one sees of a node: its mode, whether it is the sender, its counts, how many frames it has, and what it drives.
func state(n *ctl.Node) string {
	l := n.Look()
	role, off := "rx", ""
	if l.Tx {
		role = "tx"
	}
	if l.Counts.Off {
		off = " off"
	}
	return fmt.Sprintf("%s %s %d/%d%s q%d d%d", modeWords[l.Mode], role, l.Counts.TEC, l.Counts.REC, off, l.Queued, n.Drive())
}

// is holds what one sees of a node against what has to be.
func is(t *testing.T, n *ctl.Node, want string) {
	t.Helper()
	if got := state(n); got != want {
		t.Errorf("the node is %s, not %s", got, want)
	}
}

// kindWords are the kinds' names, as their numbers are counted.
var kindWords = []string{"", "Sent", "Received", "Lost", "BitError", "StuffError", "SumError", "FormError", "AckError", "Overload", "GoneOff", "Back"}

// word is an event's kind, and its frame, if it is of one that has a frame.
func word(t *testing.T, x api.Event) string {
	t.Helper()
	f := x.Frame
	if x.Tick != 0 || x.Node != 0 {
		t.Errorf("the event %+v has a tick, or a node", x)
	}
	if x.Kind == api.Sent || x.Kind == api.Received {
		text, e := frame.Text(f)
		if e != api.OK {
			t.Errorf("the event %+v: %v", x, e)
		}
		return kindWords[x.Kind] + " " + text
	}
	if f != (api.Frame{}) {
		t.Errorf("the event %+v has a frame", x)
	}
	return kindWords[x.Kind]
}

// step has a node see a level: what is told, in words.
func step(t *testing.T, n *ctl.Node, level byte) []string {
	t.Helper()
	l, e := n.Step(int(level - '0'))
	if e != api.OK {
		t.Fatalf("Step(%c) of a node that is %s: %v", level, state(n), e)
	}
	var words []string
	for _, x := range l {
		words = append(words, word(t, x))
	}
	return words
}

// sees has a node see the levels of a text (blanks are for him who reads it), and holds what is told, each with its place, against what has to be.
func sees(t *testing.T, n *ctl.Node, text string, want ...string) {
	t.Helper()
	var got []string
	for i, level := range strings.ReplaceAll(text, " ", "") {
		for _, told := range step(t, n, byte(level)) {
			got = append(got, fmt.Sprint(i, " ", told))
		}
	}
	if !slices.Equal(got, want) {
		t.Errorf("%s: told %q, not %q", text, got, want)
	}
}

// puts has frames put in that have room.
func puts(t *testing.T, n *ctl.Node, l ...api.Frame) {
	t.Helper()
	for _, f := range l {
		if e := n.Put(f); e != api.OK {
			t.Fatalf("Put(%+v) = %v", f, e)
		}
	}
}

// calm has a node see what it drives itself, till it is idle.
func calm(t *testing.T, n *ctl.Node) {
	t.Helper()
	for range 200 {
		if n.Look().Mode == ctl.Idle {
			return
		}
		step(t, n, '0'+byte(n.Drive()))
	}
	t.Fatalf("the node is %s for ever", state(n))
}

// sends has an idle node send its first frame, that is acknowledged, and become idle.
func sends(t *testing.T, n *ctl.Node) {
	t.Helper()
	for _, level := range onBus(n.Queue()[0], true) {
		step(t, n, byte(level))
	}
	calm(t, n)
}

// joined is an idle node with frames.
func joined(t *testing.T, l ...api.Frame) *ctl.Node {
	t.Helper()
	n := ctl.New()
	sees(t, n, joins)
	puts(t, n, l...)
	return n
}

// made is an idle node of counts, that is not the sender, with frames; its TEC is 254 at most.
func made(t *testing.T, tec, rec int, l ...api.Frame) *ctl.Node {
	t.Helper()
	n := joined(t)
	for n.Look().Counts.TEC != tec || n.Look().Queued > 0 {
		if n.Look().Queued == 0 {
			puts(t, n, short(0x555))
		}
		if c := n.Look().Counts; c.TEC > tec || c.TEC+8 > 255 {
			sends(t, n)
		} else {
			step(t, n, '1')
			calm(t, n)
		}
	}
	for range rec / 9 {
		step6and6(t, n)
		step(t, n, '0')
		calm(t, n)
	}
	for range rec % 9 {
		step6and6(t, n)
		calm(t, n)
	}
	if rec == 0 {
		sees(t, n, onBus(short(0x555), true), "43 Received 555#")
		calm(t, n)
	}
	is(t, n, fmt.Sprintf("Idle rx %d/%d q0 d1", tec, rec))
	puts(t, n, l...)
	return n
}

// step6and6 has a node without frames see six levels 0, by which it has an error, and six more, in its flag.
func step6and6(t *testing.T, n *ctl.Node) {
	t.Helper()
	for range 12 {
		step(t, n, '0')
	}
}

// noLevels are numbers that are no levels.
var noLevels = []int{math.MinInt, math.MinInt + 1, math.MinInt32, -256, -2, -1, 2, 3, 7, 48, 49, 255, 256, 257, math.MaxInt32, 1 << 32, 1<<32 + 1, math.MaxInt - 1, math.MaxInt}

// wrongFrames are frames that may not be.
func wrongFrames() []api.Frame {
	return []api.Frame{
		short(-1), short(2048), short(536870911), short(math.MinInt), short(math.MaxInt), remote(short(2048), 0), remote(short(5), 9), remote(short(5), -1),
		long(-1), long(536870912), long(1 << 32), long(math.MinInt), long(math.MaxInt), remote(long(-1), 0),
		{Len: -1}, {Len: 9}, {Len: math.MaxInt}, {Len: math.MinInt}, {Len: 9, Ext: true},
		{Data: [8]byte{1}}, {Data: [8]byte{7: 1}}, {Len: 7, Data: [8]byte{7: 1}}, {Len: 1, Rtr: true, Data: [8]byte{1}}, {ID: -1, Len: 9, Rtr: true, Data: [8]byte{1}},
	}
}

// ranked are sixteen frames of all kinds, as they come.
func ranked() []api.Frame {
	return []api.Frame{
		short(0), remote(short(0), 0), long(0), remote(long(0), 8), long(1),
		short(5, 255, 255), short(5, 2), remote(short(5), 3), long(5 << 18), remote(long(5<<18), 0), long(5<<18|1, 1),
		short(6, 0), short(291), short(2047), long(536870911, 1, 2, 3, 4, 5, 6, 7, 8), remote(long(536870911), 8),
	}
}

// atEachTick has nodes as they are at each tick of each story: each is one's own, and each comes anew.
func atEachTick(t *testing.T, do func(where string, n *ctl.Node)) {
	t.Helper()
	for _, s := range stories() {
		s.play(t, func(tick int, x pair) {
			do(fmt.Sprintf("%s, tick %d", s.name, tick), x.n.Clone())
		})
	}
}

// future is what a node tells, and what one sees of it, through levels and frames that go through much; it is turned by that.
func future(n *ctl.Node) string {
	var text strings.Builder
	levels := "0000001" + onBus(short(3, 0xF0), true) + "111" + "1111111111100" + strings.Repeat("1", 40)
	for i, level := range levels {
		if i == 80 {
			text.WriteString(n.Put(long(7, 7)).Error())
		}
		l, e := n.Step(int(level - '0'))
		text.WriteString(state(n))
		if len(l) > 0 || e != api.OK {
			text.WriteString(fmt.Sprint(l, e))
		}
		text.WriteString("\n")
	}
	text.WriteString(fmt.Sprint(n.Queue()))
	return text.String()
}

// P10.1

func TestNew(t *testing.T) {
	n := ctl.New()
	is(t, n, "Joining rx 0/0 q0 d1")
	if l := n.Queue(); len(l) != 0 {
		t.Errorf("a new node has %+v", l)
	}
	if l := n.Look(); l != (ctl.Look{}) {
		t.Errorf("Look() of a new node is %+v", l)
	}
}

func TestNewNodesAreApart(t *testing.T) {
	a, b := ctl.New(), ctl.New()
	puts(t, a, short(5))
	sees(t, a, joins)
	is(t, a, "Idle rx 0/0 q1 d0")
	is(t, b, "Joining rx 0/0 q0 d1")
	sees(t, a, "1", "0 BitError")
	puts(t, b, short(6))
	is(t, a, "ErrorFlag tx 8/0 q1 d0")
	is(t, b, "Joining rx 0/0 q1 d1")
}

func TestModesNumbers(t *testing.T) {
	for i, mode := range []int{ctl.Joining, ctl.Idle, ctl.InFrame, ctl.ErrorFlag, ctl.PassiveFlag, ctl.OverFlag, ctl.Waiting, ctl.Closing, ctl.Pause, ctl.Suspend, ctl.BusOff} {
		if mode != i {
			t.Errorf("%s is %d", modeWords[i], mode)
		}
	}
}

func TestPut(t *testing.T) {
	n, p := ctl.New(), &paper{}
	for k := range 16 {
		f := ranked()[k*9%16]
		p.put(f)
		puts(t, n, f)
		is(t, n, fmt.Sprintf("Joining rx 0/0 q%d d1", k+1))
		if l := n.Queue(); !slices.Equal(l, p.queue) {
			t.Errorf("Queue() = %+v, not %+v", l, p.queue)
		}
	}
	for _, f := range append(ranked(), short(77)) {
		if e := n.Put(f); e != api.ErrFull {
			t.Errorf("Put(%+v) as 16 are in = %v", f, e)
		}
	}
	// Of two that are alike on the bus the one that was put in first comes first.
	want := ranked()
	want[5], want[6] = short(5, 2), short(5, 255, 255)
	if l := n.Queue(); !slices.Equal(l, want) {
		t.Errorf("Queue() = %+v, not %+v", l, want)
	}
	is(t, n, "Joining rx 0/0 q16 d1")
	sees(t, n, joins)
	is(t, n, "Idle rx 0/0 q16 d0")
}

// TestPutWhereverOneIs has frames put in at all ticks, as many as there is room for, and one more.
func TestPutWhereverOneIs(t *testing.T) {
	atEachTick(t, func(where string, n *ctl.Node) {
		was := n.Look()
		for k := was.Queued; k < 16; k++ {
			if e := n.Put(short(0x700 + k)); e != api.OK {
				t.Fatalf("%s: Put as %d are in: %v", where, k, e)
			}
		}
		if e := n.Put(short(0)); e != api.ErrFull {
			t.Fatalf("%s: Put as 16 are in: %v", where, e)
		}
		was.Queued = 16
		if l := n.Look(); l != was || len(n.Queue()) != 16 {
			t.Fatalf("%s: behind Put %+v, not %+v", where, l, was)
		}
	})
}

func TestPutOfFramesThatMayNotBe(t *testing.T) {
	for most := range 17 {
		n := joined(t, ranked()[:most]...)
		was := state(n)
		for _, f := range wrongFrames() {
			// A full one, too: ErrFrame is named first.
			if e := n.Put(f); e != api.ErrFrame {
				t.Errorf("Put(%+v) as %d are in = %v", f, most, e)
			}
		}
		is(t, n, was)
		if l := n.Queue(); !slices.Equal(l, ranked()[:most]) {
			t.Errorf("behind frames that may not be Queue() = %+v", l)
		}
	}
}

// TestRefusedPutTurnsNothing holds what comes behind a Put that was refused against what comes without it.
func TestRefusedPutTurnsNothing(t *testing.T) {
	atEachTick(t, func(where string, n *ctl.Node) {
		other := n.Clone()
		for _, f := range wrongFrames() {
			n.Put(f)
		}
		if a, b := future(n), future(other); a != b {
			t.Fatalf("%s: behind a Put that was refused:\n%s\nnot\n%s", where, a, b)
		}
	})
}

func TestQueueIsTheCallers(t *testing.T) {
	n := joined(t, short(7, 1), short(5), short(6))
	want := []api.Frame{short(5), short(6), short(7, 1)}
	a, b := n.Queue(), n.Queue()
	a[0], a[2].Data[0] = short(99), 42
	a = append(a[:1], short(1), short(2), short(3))
	if len(a) != 4 || !slices.Equal(b, want) || !slices.Equal(n.Queue(), want) {
		t.Errorf("Queue() = %+v, and before %+v, not %+v", n.Queue(), b, want)
	}
	sees(t, n, onBus(short(5), true), fmt.Sprint(len(onBus(short(5), true))-1, " Sent 005#"))
	if !slices.Equal(b, want) || !slices.Equal(n.Queue(), want[1:]) {
		t.Errorf("behind a frame Queue() = %+v, and before %+v", n.Queue(), b)
	}
}

// P10.2

func TestNil(t *testing.T) {
	var n *ctl.Node
	for _, f := range append(ranked(), wrongFrames()...) {
		if e := n.Put(f); e != api.ErrNil {
			t.Errorf("Put(%+v) of nil = %v", f, e)
		}
	}
	for _, level := range append([]int{0, 1}, noLevels...) {
		// Of a number that is no level, too: ErrNil is named first.
		if l, e := n.Step(level); len(l) != 0 || e != api.ErrNil {
			t.Errorf("Step(%d) of nil = %+v, %v", level, l, e)
		}
	}
	if level := n.Drive(); level != api.Recessive {
		t.Errorf("Drive() of nil = %d", level)
	}
	if l := n.Look(); l != (ctl.Look{}) {
		t.Errorf("Look() of nil = %+v", l)
	}
	if l := n.Queue(); len(l) != 0 {
		t.Errorf("Queue() of nil = %+v", l)
	}
	if c := n.Clone(); c != nil {
		t.Errorf("Clone() of nil = %+v", c)
	}
}

// TestStepOfNoLevels has, at all ticks, numbers that are no levels, and holds what comes behind them against what comes without them.
func TestStepOfNoLevels(t *testing.T) {
	modes := map[int]bool{}
	atEachTick(t, func(where string, n *ctl.Node) {
		modes[n.Look().Mode] = true
		other := n.Clone()
		for _, level := range noLevels {
			if l, e := n.Step(level); len(l) != 0 || e != api.ErrRange {
				t.Fatalf("%s: Step(%d) = %+v, %v", where, level, l, e)
			}
			if a, b := state(n), state(other); a != b {
				t.Fatalf("%s: behind Step(%d) the node is %s, not %s", where, level, a, b)
			}
		}
		if a, b := future(n), future(other); a != b {
			t.Fatalf("%s: behind a Step that was refused:\n%s\nnot\n%s", where, a, b)
		}
	})
	for mode, name := range modeWords {
		if !modes[mode] {
			t.Errorf("no story comes to %s", name)
		}
	}
}

func TestEventsAreTheCallers(t *testing.T) {
	f := short(0x123, 1, 2)
	n := joined(t, f, f)
	row := onBus(f, true)
	var all [][]api.Event
	for range 2 {
		for _, level := range row + rest {
			l, _ := n.Step(int(level - '0'))
			for i := range l {
				if l[i] != (api.Event{Kind: api.Sent, Frame: f}) {
					t.Errorf("told %+v", l[i])
				}
				all = append(all, l)
				l[i] = api.Event{Tick: 9, Node: 9, Kind: 9, Frame: short(9, 9)}
			}
		}
	}
	if len(all) != 2 || len(all[0]) != 1 || len(all[1]) != 1 {
		t.Fatalf("told %+v", all)
	}
	all[1][0] = api.Event{}
	if all[0][0].Node != 9 {
		t.Error("two answers share memory")
	}
	// Those without a frame, too; and what is behind the end of an answer is nobody's else.
	n = joined(t, f)
	a, _ := n.Step(1)
	a[0].Kind = api.Back
	_ = append(a, api.Event{Kind: api.Back})
	b, _ := n.Step(1)
	if len(b) != 1 || b[0] != (api.Event{Kind: api.BitError}) {
		t.Errorf("told %+v", b)
	}
}

// P10.4

// TestAskingTurnsNothing asks a node at all ticks, and holds it against one that nobody asked.
func TestAskingTurnsNothing(t *testing.T) {
	for _, s := range stories() {
		a, b := ctl.New(), ctl.New()
		p := &paper{}
		for i := range s.others {
			for _, f := range s.frames[i] {
				puts(t, a, f)
				puts(t, b, f)
				p.put(f)
			}
			for range 3 {
				b.Drive()
				b.Look()
				b.Queue()
				b.Clone()
			}
			level := min(s.others[i], p.drive())
			p.step(level)
			if x, y := step(t, a, level), step(t, b, level); !slices.Equal(x, y) {
				t.Fatalf("%s: tick %d: told %q of one that was asked, else %q", s.name, i, y, x)
			}
		}
		if x, y := future(a), future(b); x != y {
			t.Errorf("%s: one that was asked:\n%s\nelse\n%s", s.name, y, x)
		}
	}
}

// TestCloneIsTheSame holds a clone against one that went the whole way.
func TestCloneIsTheSame(t *testing.T) {
	for _, s := range stories() {
		s.play(t, func(tick int, x pair) {
			n := x.n.Clone()
			if n == x.n {
				t.Fatal("a clone is the node itself")
			}
			if a, b := state(n), state(x.n); a != b || !slices.Equal(n.Queue(), x.n.Queue()) {
				t.Fatalf("%s: tick %d: a clone is %s, not %s", s.name, tick, a, b)
			}
			again := pair{n, x.p.twin()}
			for i := tick; i < len(s.others) && i < tick+150; i++ {
				for _, f := range s.frames[i] {
					again.put(f)
				}
				if wrong := again.step(min(s.others[i], again.p.drive())); wrong != "" {
					t.Fatalf("%s: cloned at %d, tick %d: %s", s.name, tick, i, wrong)
				}
			}
		})
	}
}

// TestCloneGoesItsOwnWay has a clone, and its own clone, go other ways at all ticks: play holds the node itself against paper.
func TestCloneGoesItsOwnWay(t *testing.T) {
	for _, s := range stories() {
		s.play(t, func(tick int, x pair) {
			a := x.n.Clone()
			puts(t, a, short(1))
			b := a.Clone()
			future(a)
			b.Step(1 - b.Drive())
			future(b)
		})
	}
}

// TestClonesOfAFrame has two that were one at each level of a frame take the frames of both, level by level in turn.
func TestClonesOfAFrame(t *testing.T) {
	f := short(0x2A5, 0x11, 0x22)
	for at := range len(onBus(f, true)) - 2 {
		for _, g := range []api.Frame{short(0x2A5, 0x11, 0x33), short(0x2A5, 0xEE), short(0x2A6), remote(short(0x2A5), 2), long(0x2A5<<18|5, 1, 2, 3)} {
			rows := []string{onBus(f, true), onBus(g, true)}
			if rows[1][:min(at, len(rows[1]))] != rows[0][:at] {
				continue
			}
			a := joined(t)
			sees(t, a, rows[0][:at])
			nodes := []*ctl.Node{a, a.Clone()}
			got := [2][]string{}
			for i := at; i < max(len(rows[0]), len(rows[1]))-1; i++ {
				for k, n := range nodes {
					if i < len(rows[k])-1 {
						got[k] = append(got[k], step(t, n, rows[k][i])...)
					}
				}
			}
			for k, f := range []api.Frame{f, g} {
				text, _ := frame.Text(f)
				if !slices.Equal(got[k], []string{"Received " + text}) {
					t.Errorf("parted at %d: told %q, not %s", at, got[k], text)
				}
			}
		}
	}
}

// TestClonesOfASender has two that were one at each level of a frame that both send: one goes on, the other one loses it, or errs.
func TestClonesOfASender(t *testing.T) {
	f, next := short(0x2A5, 0x11), short(0x2A6)
	row := onBus(f, true)
	for at := range len(row) {
		a := joined(t, f)
		sees(t, a, row[:at])
		b := a.Clone()
		puts(t, b, next)
		b.Step(1 - int(row[at]-'0'))
		b.Step(0)
		sees(t, a, row[at:], fmt.Sprint(len(row)-at-1, " Sent 2A5#11"))
		is(t, a, "Pause tx 0/0 q0 d1")
		if l := b.Queue(); !slices.Equal(l, []api.Frame{f, next}) {
			t.Errorf("parted at %d: %+v", at, l)
		}
	}
}

func TestCloneHasItsOwnQueue(t *testing.T) {
	a := joined(t, short(5), short(6))
	b := a.Clone()
	puts(t, a, short(4))
	puts(t, b, short(7), short(8))
	sends(t, a)
	sends(t, a)
	if l := a.Queue(); !slices.Equal(l, []api.Frame{short(6)}) {
		t.Errorf("the node has %+v", l)
	}
	if l := b.Queue(); !slices.Equal(l, []api.Frame{short(5), short(6), short(7), short(8)}) {
		t.Errorf("its clone has %+v", l)
	}
	for k := 4; k < 16; k++ {
		puts(t, b, short(k))
	}
	if e := b.Put(short(0)); e != api.ErrFull {
		t.Errorf("Put of a clone that has 16: %v", e)
	}
	puts(t, a, short(0))
}

// Rules: counts are told as count has them.
func TestLookIsTheCallers(t *testing.T) {
	n := made(t, 8, 3)
	l := n.Look()
	l.Counts = count.Counts{TEC: 100}
	l.Mode, l.Tx, l.Queued = ctl.BusOff, true, 5
	is(t, n, "Idle rx 8/3 q0 d1")
}
