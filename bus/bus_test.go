package bus_test

import (
	"fmt"
	"math"
	"slices"
	"strings"
	"testing"

	"magneto/api"
	"magneto/bus"
	"magneto/ctl"
)

func short(id int, data ...byte) api.Frame { return carrying(api.Frame{ID: id}, data) }

func long(id int, data ...byte) api.Frame { return carrying(api.Frame{ID: id, Ext: true}, data) }

func carrying(f api.Frame, data []byte) api.Frame {
	f.Len = len(data)
	copy(f.Data[:], data)
	return f
}

// remote is a frame that asks for so many bytes.
func remote(f api.Frame, length int) api.Frame {
	f.Rtr, f.Len = true, length
	return f
}

// sizes are how many nodes buses have, at the edges and between.
var sizes = []int{1, 2, 3, 7, 16, 31, 32}

// noSizes are how many nodes no bus has.
var noSizes = []int{math.MinInt, math.MinInt + 1, math.MinInt32, -1 << 32, -32, -2, -1, 0, 33, 34, 63, 64, 255, 256, 257, 1 << 31, 1 << 32, 1<<32 + 1, 1<<32 + 32, math.MaxInt - 1, math.MaxInt}

// noNodes are numbers of no node of a bus of so many.
func noNodes(nodes int) []int {
	l := []int{math.MinInt, math.MinInt32, -1 << 32, -32, -2, -1, nodes, nodes + 1, 32, 33, 64, 1 << 31, 1 << 32, 1<<32 + nodes - 1, math.MaxInt - 1, math.MaxInt}
	if nodes < 32 {
		l = append(l, 31)
	}
	return l
}

// noMasks are masks that have a bit that is no node's of a bus of so many, some with bits of nodes beside.
func noMasks(nodes int) []uint32 {
	var l []uint32
	for bit := nodes; bit < 32; bit++ {
		l = append(l, mask(bit), mask(bit)+1, mask(append(everyone(nodes), bit)...))
	}
	if nodes < 32 {
		l = append(l, nobody, nobody-mask(everyone(nodes)...))
	}
	return l
}

// wrongFrames are frames that may not be.
func wrongFrames() []api.Frame {
	return []api.Frame{
		short(-1), short(2048), short(math.MinInt), short(math.MaxInt), remote(short(5), 9), remote(short(5), -1),
		long(-1), long(536870912), long(1 << 32), long(math.MaxInt), {Len: -1}, {Len: 9}, {Len: math.MaxInt}, {Len: 9, Ext: true},
		{Data: [8]byte{1}}, {Data: [8]byte{7: 1}}, {Len: 7, Data: [8]byte{7: 1}}, {Len: 1, Rtr: true, Data: [8]byte{1}},
	}
}

// fresh is a new bus.
func fresh(t *testing.T, nodes int) *bus.Bus {
	t.Helper()
	b, e := bus.New(nodes)
	if e != api.OK || b == nil {
		t.Fatalf("New(%d) = %v, %v", nodes, b, e)
	}
	return b
}

// joined is a bus whose nodes have joined: its tick is 11.
func joined(t *testing.T, nodes int) *bus.Bus {
	t.Helper()
	b := fresh(t, nodes)
	for range 11 {
		steps(t, b, 0, api.Run{N: 1, Bus: 1, Drive: nobody})
	}
	return b
}

// puts has frames put in that have room.
func puts(t *testing.T, b *bus.Bus, node int, l ...api.Frame) {
	t.Helper()
	for _, f := range l {
		if e := b.Put(node, f); e != api.OK {
			t.Fatalf("Put(%d, %+v) = %v", node, f, e)
		}
	}
}

// holds holds what a tick tells against what has to be.
func holds(t *testing.T, call string, got api.Run, told []api.Event, e api.Errno, r api.Run, want []api.Event) {
	t.Helper()
	if got != r || !slices.Equal(told, want) || e != api.OK {
		t.Errorf("%s = %+v, %+v, %v, not %+v, %+v", call, got, told, e, r, want)
	}
}

// steps holds what a tick tells against what has to be.
func steps(t *testing.T, b *bus.Bus, faults uint32, r api.Run, want ...api.Event) {
	t.Helper()
	got, told, e := b.Step(faults)
	holds(t, fmt.Sprintf("Step(%x)", faults), got, told, e, r, want)
}

// forces holds what a tick tells in which nodes are forced against what has to be.
func forces(t *testing.T, b *bus.Bus, faults, forced, drive uint32, r api.Run, want ...api.Event) {
	t.Helper()
	got, told, e := b.Force(faults, forced, drive)
	holds(t, fmt.Sprintf("Force(%x, %x, %x)", faults, forced, drive), got, told, e, r, want)
}

// looks are what one sees of all nodes.
func looks(t *testing.T, b *bus.Bus) []ctl.Look {
	t.Helper()
	var l []ctl.Look
	for node := range b.Nodes() {
		x, e := b.Look(node)
		if e != api.OK {
			t.Fatalf("Look(%d) of %d nodes: %v", node, b.Nodes(), e)
		}
		l = append(l, x)
	}
	return l
}

// modes are the modes of all nodes.
func modes(t *testing.T, b *bus.Bus) []int {
	t.Helper()
	var l []int
	for _, x := range looks(t, b) {
		l = append(l, x.Mode)
	}
	return l
}

// are holds modes of nodes against what has to be: one mode, and another one of some nodes.
func are(t *testing.T, b *bus.Bus, mode, other int, nodes ...int) {
	t.Helper()
	for node, got := range modes(t, b) {
		want := mode
		if slices.Contains(nodes, node) {
			want = other
		}
		if got != want {
			t.Errorf("of %d nodes node %d is in the mode %d, not %d", b.Nodes(), node, got, want)
		}
	}
}

// state is what one sees of a bus.
func state(t *testing.T, b *bus.Bus) string {
	t.Helper()
	return fmt.Sprintf("%d %d %+v", b.Nodes(), b.Tick(), looks(t, b))
}

// future is what a bus does through ticks with frames and faults; it is turned by that.
func future(t *testing.T, b *bus.Bus) string {
	t.Helper()
	var text strings.Builder
	last := b.Nodes() - 1
	for i := range 300 {
		faults := uint32(0)
		if i%47 == 20 {
			faults = mask(i % b.Nodes())
		}
		if i%90 == 3 {
			fmt.Fprint(&text, b.Put(0, long(i, 7)), b.Put(last, short(i)))
		}
		r, l, e := b.Step(faults)
		fmt.Fprint(&text, r, l, e, "\n")
	}
	return text.String() + state(t, b)
}

// P11.1

func TestNew(t *testing.T) {
	for nodes := 1; nodes <= 32; nodes++ {
		b := fresh(t, nodes)
		if b.Nodes() != nodes || b.Tick() != 0 {
			t.Errorf("New(%d) has %d nodes, and %d ticks", nodes, b.Nodes(), b.Tick())
		}
		for node, l := range looks(t, b) {
			if l != (ctl.Look{}) {
				t.Errorf("New(%d): node %d is %+v", nodes, node, l)
			}
		}
	}
}

func TestNewOfNumbersThatMayNotBe(t *testing.T) {
	for _, nodes := range noSizes {
		if b, e := bus.New(nodes); b != nil || e != api.ErrRange {
			t.Errorf("New(%d) = %v, %v", nodes, b, e)
		}
	}
}

func TestNewBusesAreApart(t *testing.T) {
	a, b := fresh(t, 2), fresh(t, 2)
	puts(t, a, 1, short(5))
	steps(t, a, 0, api.Run{N: 1, Bus: 1, Drive: nobody})
	if a.Tick() != 1 || b.Tick() != 0 || looks(t, a)[1].Queued != 1 || looks(t, b)[1].Queued != 0 {
		t.Errorf("%s, %s", state(t, a), state(t, b))
	}
	if got, want := future(t, b), future(t, fresh(t, 2)); got != want {
		t.Errorf("a new bus goes another way:\n%s\n%s", got, want)
	}
}

func TestTickCounts(t *testing.T) {
	for _, nodes := range sizes {
		b := fresh(t, nodes)
		for tick := range 200 {
			if b.Tick() != tick || b.Nodes() != nodes {
				t.Errorf("%d nodes, %d ticks: Nodes() = %d, Tick() = %d", nodes, tick, b.Nodes(), b.Tick())
			}
			if tick%3 == 0 {
				b.Force(0, 1, uint32(tick))
			} else {
				b.Step(uint32(tick % 2))
			}
		}
	}
}

func TestPut(t *testing.T) {
	for _, nodes := range sizes {
		for _, node := range []int{0, nodes / 2, nodes - 1} {
			b := fresh(t, nodes)
			for k := range 16 {
				puts(t, b, node, short(k))
				for i, l := range looks(t, b) {
					want := ctl.Look{}
					if i == node {
						want.Queued = k + 1
					}
					if l != want {
						t.Errorf("%d nodes, %d frames put in at %d: node %d is %+v", nodes, k+1, node, i, l)
					}
				}
			}
			was := b.Clone()
			if e := b.Put(node, short(77)); e != api.ErrFull {
				t.Errorf("Put(%d) as 16 are in: %v", node, e)
			}
			for _, f := range wrongFrames() {
				if e := b.Put(node, f); e != api.ErrFrame {
					t.Errorf("Put(%d, %+v) = %v", node, f, e)
				}
			}
			if future(t, b) != future(t, was) {
				t.Errorf("Put that was refused turned the bus of %d nodes", nodes)
			}
		}
	}
}

func TestPutOfFramesThatMayNotBe(t *testing.T) {
	for _, nodes := range sizes {
		b := joined(t, nodes)
		was := b.Clone()
		for _, f := range wrongFrames() {
			for _, node := range []int{0, nodes - 1} {
				if e := b.Put(node, f); e != api.ErrFrame {
					t.Errorf("Put(%d, %+v) = %v", node, f, e)
				}
			}
		}
		if future(t, b) != future(t, was) {
			t.Errorf("Put that was refused turned the bus of %d nodes", nodes)
		}
	}
}

// TestNoNode has numbers of no node refused, also with frames that may not be.
func TestNoNode(t *testing.T) {
	for _, nodes := range sizes {
		b := joined(t, nodes)
		was := b.Clone()
		for _, node := range noNodes(nodes) {
			for _, f := range append(wrongFrames(), short(0), long(5, 1)) {
				if e := b.Put(node, f); e != api.ErrRange {
					t.Errorf("Put(%d, %+v) of %d nodes = %v", node, f, nodes, e)
				}
			}
			if l, e := b.Look(node); l != (ctl.Look{}) || e != api.ErrRange {
				t.Errorf("Look(%d) of %d nodes = %+v, %v", node, nodes, l, e)
			}
		}
		if future(t, b) != future(t, was) {
			t.Errorf("what was refused turned the bus of %d nodes", nodes)
		}
	}
}

// TestLook looks at nodes that differ.
func TestLook(t *testing.T) {
	b := joined(t, 4)
	puts(t, b, 1, short(5), short(6))
	puts(t, b, 3, short(9))
	steps(t, b, mask(0), api.Run{N: 1, Drive: driving(1, 3)})
	want := []ctl.Look{{Mode: ctl.Idle}, {Mode: ctl.InFrame, Tx: true, Queued: 2}, {Mode: ctl.InFrame}, {Mode: ctl.InFrame, Tx: true, Queued: 1}}
	if l := looks(t, b); !slices.Equal(l, want) {
		t.Errorf("%+v, not %+v", l, want)
	}
	// Node 1 drives 0, and sees 1: it has an error.
	steps(t, b, mask(1), api.Run{N: 1, Drive: driving(1, 3)}, api.Event{Tick: 12, Node: 1, Kind: api.BitError})
	l, e := b.Look(1)
	if l.Mode != ctl.ErrorFlag || !l.Tx || l.Counts.TEC != 8 || l.Counts.REC != 0 || l.Queued != 2 || e != api.OK {
		t.Errorf("Look(1) = %+v, %v", l, e)
	}
}

func TestClone(t *testing.T) {
	for _, nodes := range sizes {
		b := joined(t, nodes)
		puts(t, b, nodes-1, short(5, 1), short(4))
		for range 170 {
			c := b.Clone()
			if got, want := state(t, c), state(t, b); got != want {
				t.Fatalf("Clone() is %s, not %s", got, want)
			}
			if nodes <= 3 || b.Tick()%20 == 0 {
				if got, want := future(t, c), future(t, b.Clone()); got != want {
					t.Fatalf("clones of one go other ways:\n%s\n%s", got, want)
				}
			}
			b.Step(0)
		}
	}
}

// TestClonesGoTheirOwnWays has one go on, and the other one be as it was, both ways.
func TestClonesGoTheirOwnWays(t *testing.T) {
	made := func() (*bus.Bus, *bus.Bus) {
		b := joined(t, 3)
		puts(t, b, 0, short(5, 1))
		puts(t, b, 2, short(4))
		for range 30 {
			b.Step(0)
		}
		return b, b.Clone()
	}
	_, kept := made()
	want := future(t, kept)
	for _, first := range []bool{true, false} {
		a, b := made()
		if first {
			a, b = b, a
		}
		was := state(t, a)
		future(t, b)
		puts(t, b, 1, short(1))
		b.Force(mask(1), mask(0), 0)
		if got := state(t, a); got != was {
			t.Errorf("the one is %s, not %s, as the other one went on", got, was)
		}
		if got := future(t, a); got != want {
			t.Errorf("the one goes on as\n%s\nnot\n%s", got, want)
		}
	}
}

func TestNil(t *testing.T) {
	var b *bus.Bus
	if b.Nodes() != 0 || b.Tick() != 0 || b.Clone() != nil {
		t.Errorf("of a nil bus Nodes() = %d, Tick() = %d, Clone() = %v", b.Nodes(), b.Tick(), b.Clone())
	}
	for _, node := range append(noNodes(1), 0, 1, 31) {
		for _, f := range append(wrongFrames(), short(0)) {
			if e := b.Put(node, f); e != api.ErrNil {
				t.Errorf("Put(%d, %+v) of a nil bus = %v", node, f, e)
			}
		}
		if l, e := b.Look(node); l != (ctl.Look{}) || e != api.ErrNil {
			t.Errorf("Look(%d) of a nil bus = %+v, %v", node, l, e)
		}
	}
	for _, faults := range []uint32{0, 1, 1 << 31, nobody} {
		if r, l, e := b.Step(faults); r != (api.Run{}) || len(l) != 0 || e != api.ErrNil {
			t.Errorf("Step(%x) of a nil bus = %+v, %+v, %v", faults, r, l, e)
		}
		for _, forced := range []uint32{0, 1, nobody} {
			if r, l, e := b.Force(faults, forced, faults); r != (api.Run{}) || len(l) != 0 || e != api.ErrNil {
				t.Errorf("Force(%x, %x) of a nil bus = %+v, %+v, %v", faults, forced, r, l, e)
			}
		}
	}
}

// TestAskingTurnsNothing asks all that may be asked at each tick, and goes on as a bus that is not asked.
func TestAskingTurnsNothing(t *testing.T) {
	asked, left := joined(t, 3), joined(t, 3)
	for i := range 400 {
		if i%100 == 0 {
			for _, b := range []*bus.Bus{asked, left} {
				puts(t, b, i%3, short(i+2, 9), long(i))
			}
		}
		for range 2 {
			state(t, asked)
			asked.Clone()
			bus.Check(3, bus.Act{Node: 1, Frame: short(1)})
			bus.Play(3, 20, bus.Act{Node: 1, Frame: short(1)})
		}
		faults := mask(i%3) * uint32(i/7%2)
		r, l, e := asked.Step(faults)
		s, m, x := left.Step(faults)
		if r != s || !slices.Equal(l, m) || e != x || state(t, asked) != state(t, left) {
			t.Fatalf("at %d %+v, %+v, %v, not %+v, %+v, %v", i, r, l, e, s, m, x)
		}
	}
}

// P11.2

// TestStepOfNew has nodes that join: nobody drives 0, and nothing is told, eleven ticks long.
func TestStepOfNew(t *testing.T) {
	for _, nodes := range sizes {
		b := fresh(t, nodes)
		puts(t, b, nodes-1, short(5))
		for tick := range 11 {
			are(t, b, ctl.Joining, ctl.Joining)
			steps(t, b, 0, api.Run{N: 1, Bus: 1, Drive: nobody})
			if b.Tick() != tick+1 {
				t.Errorf("Tick() = %d behind %d", b.Tick(), tick+1)
			}
		}
		are(t, b, ctl.Idle, ctl.Idle)
		steps(t, b, 0, api.Run{N: 1, Drive: driving(nodes - 1)})
		are(t, b, ctl.InFrame, ctl.InFrame)
	}
}

// TestWhoDrives has none, each one, two, the outer ones, and all of the nodes drive 0.
func TestWhoDrives(t *testing.T) {
	for _, nodes := range sizes {
		quiet := joined(t, nodes)
		steps(t, quiet, 0, api.Run{N: 1, Bus: 1, Drive: nobody})
		are(t, quiet, ctl.Idle, ctl.Idle)
		var all [][]int
		for node := range nodes {
			all = append(all, []int{node}, []int{node, nodes - 1 - node}, everyone(node+1), everyone(nodes)[node:])
		}
		for _, l := range all {
			b := joined(t, nodes)
			drive := uint32(nobody)
			for _, node := range l {
				puts(t, b, node, short(5))
				drive &= driving(node)
			}
			steps(t, b, 0, api.Run{N: 1, Drive: drive})
			are(t, b, ctl.InFrame, ctl.InFrame)
			for node, x := range looks(t, b) {
				if x.Tx != slices.Contains(l, node) {
					t.Errorf("%d nodes, %v drive 0: node %d is %+v", nodes, l, node, x)
				}
			}
		}
	}
}

// TestDriveOfNoNode has the bits of no node be 1, written out.
func TestDriveOfNoNode(t *testing.T) {
	for _, c := range []struct {
		nodes, node int
		drive       uint32
	}{{1, 0, 0xFFFFFFFE}, {2, 0, 0xFFFFFFFE}, {2, 1, 0xFFFFFFFD}, {31, 0, 0xFFFFFFFE}, {31, 30, 0xBFFFFFFF}, {32, 0, 0xFFFFFFFE}, {32, 31, 0x7FFFFFFF}} {
		b := joined(t, c.nodes)
		puts(t, b, c.node, short(5))
		steps(t, b, 0, api.Run{N: 1, Bus: 0, Drive: c.drive})
	}
	all := joined(t, 32)
	for node := range 32 {
		puts(t, all, node, short(5))
	}
	steps(t, all, 0, api.Run{N: 1, Bus: 0, Drive: 0})
	one := joined(t, 1)
	forces(t, one, 0, 1, 0, api.Run{N: 1, Bus: 0, Drive: 0xFFFFFFFE})
	steps(t, one, 0, api.Run{N: 1, Bus: 1, Drive: 0xFFFFFFFF})
}

// TestFaultsOfQuietNodes has some nodes see 0, as the bus is 1.
func TestFaultsOfQuietNodes(t *testing.T) {
	for _, nodes := range sizes {
		for _, l := range [][]int{{}, {0}, {nodes - 1}, {nodes / 2}, everyone(nodes/2 + 1), everyone(nodes)[nodes/2:], everyone(nodes)} {
			b := joined(t, nodes)
			steps(t, b, mask(l...), api.Run{N: 1, Bus: 1, Drive: nobody})
			are(t, b, ctl.Idle, ctl.InFrame, l...)
		}
	}
}

// TestFaultsOfThoseThatDrive has some nodes, that all drive 0, see 1: these tell an error, the least first.
func TestFaultsOfThoseThatDrive(t *testing.T) {
	for _, nodes := range sizes {
		for _, l := range [][]int{{}, {0}, {nodes - 1}, {nodes / 2}, everyone(nodes/2 + 1), everyone(nodes)[nodes/2:], everyone(nodes)} {
			b := joined(t, nodes)
			for node := nodes - 1; node >= 0; node-- {
				puts(t, b, node, short(node))
			}
			var want []api.Event
			for _, node := range l {
				want = append(want, api.Event{Tick: 11, Node: node, Kind: api.BitError})
			}
			steps(t, b, mask(l...), api.Run{N: 1, Bus: 0, Drive: driving(everyone(nodes)...)}, want...)
			are(t, b, ctl.InFrame, ctl.ErrorFlag, l...)
		}
	}
}

// TestEventsOfOneTick has several nodes tell the same, and something else each, at one tick.
func TestEventsOfOneTick(t *testing.T) {
	b := joined(t, 4)
	f, g, h := short(3, 1), short(2, 2), short(1, 3)
	puts(t, b, 3, f)
	puts(t, b, 1, g)
	puts(t, b, 0, h)
	length := len(onBus(t, h, true))
	var told []api.Event
	for range length - 1 {
		_, l, e := b.Step(0)
		if e != api.OK {
			t.Fatal(e)
		}
		told = append(told, l...)
	}
	// Behind nine levels 0 of the ID, two of which have one added behind, node 0 alone has another 0: the 13th level of all.
	want := []api.Event{
		{Tick: 23, Node: 1, Kind: api.Lost}, {Tick: 23, Node: 3, Kind: api.Lost},
		{Tick: 9 + length, Node: 1, Kind: api.Received, Frame: h}, {Tick: 9 + length, Node: 2, Kind: api.Received, Frame: h}, {Tick: 9 + length, Node: 3, Kind: api.Received, Frame: h},
	}
	if !slices.Equal(told, want) {
		t.Errorf("%+v, not %+v", told, want)
	}
	// The frame's last level: node 0 that sent it, and sees it as 0, has an error; node 2, that sees it so, an overload.
	steps(t, b, mask(0, 2), api.Run{N: 1, Bus: 1, Drive: nobody}, api.Event{Tick: 10 + length, Node: 0, Kind: api.BitError}, api.Event{Tick: 10 + length, Node: 2, Kind: api.Overload})
}

// TestTwoEventsOfOneNode has a node tell two things at a tick, with others' around.
func TestTwoEventsOfOneNode(t *testing.T) {
	b := joined(t, 3)
	for node := range 3 {
		puts(t, b, node, short(5))
	}
	// Whenever node 1 drives 0, it sees 1.
	for range 2000 {
		tick := b.Tick()
		before := looks(t, b)[1].Counts
		twin := b.Clone()
		r, _, _ := twin.Step(0)
		faults := uint32(0)
		if r.Bus == 0 && digits(r.Drive)[1] == '0' {
			faults = mask(1)
		}
		if before.TEC == 248 && faults != 0 {
			faults = mask(0, 1)
			_, l, e := b.Step(faults)
			mine := slices.DeleteFunc(slices.Clone(l), func(x api.Event) bool { return x.Node != 1 })
			want := []api.Event{{Tick: tick, Node: 1, Kind: api.BitError}, {Tick: tick, Node: 1, Kind: api.GoneOff}}
			sorted := slices.IsSortedFunc(l, func(x, y api.Event) int { return x.Node - y.Node })
			if !slices.Equal(mine, want) || !sorted || e != api.OK {
				t.Errorf("%+v, %v, not %+v among others", l, e, want)
			}
			if x := looks(t, b)[1]; x.Mode != ctl.BusOff {
				t.Errorf("node 1 is %+v", x)
			}
			return
		}
		b.Step(faults)
	}
	t.Error("node 1 did not go off")
}

// TestMasksOfNoNode has the greatest bit that is a node's taken, and others refused, in faults and in a mask.
func TestMasksOfNoNode(t *testing.T) {
	for nodes := 1; nodes <= 32; nodes++ {
		b := joined(t, nodes)
		was := b.Clone()
		for _, wrong := range noMasks(nodes) {
			if r, l, e := b.Step(wrong); r != (api.Run{}) || len(l) != 0 || e != api.ErrRange {
				t.Errorf("Step(%x) of %d nodes = %+v, %+v, %v", wrong, nodes, r, l, e)
			}
			for _, right := range []uint32{0, 1, wrong} {
				if r, l, e := b.Force(wrong, right, 0); r != (api.Run{}) || len(l) != 0 || e != api.ErrRange {
					t.Errorf("Force(%x, %x, 0) of %d nodes = %+v, %+v, %v", wrong, right, nodes, r, l, e)
				}
				if r, l, e := b.Force(right, wrong, nobody); r != (api.Run{}) || len(l) != 0 || e != api.ErrRange {
					t.Errorf("Force(%x, %x, %x) of %d nodes = %+v, %+v, %v", right, wrong, uint32(nobody), nodes, r, l, e)
				}
			}
		}
		if b.Tick() != 11 || future(t, b.Clone()) != future(t, was) {
			t.Errorf("what was refused turned the bus of %d nodes", nodes)
		}
		last := nodes - 1
		forces(t, b, 0, mask(last), nobody, api.Run{N: 1, Bus: 1, Drive: nobody})
		forces(t, b, 0, mask(last), 0, api.Run{N: 1, Bus: 0, Drive: driving(last)})
		are(t, b, ctl.InFrame, ctl.Idle, last)
		c := joined(t, nodes)
		steps(t, c, mask(last), api.Run{N: 1, Bus: 1, Drive: nobody})
		are(t, c, ctl.Idle, ctl.InFrame, last)
	}
}

// TestForceOfNone has ticks with a mask of noughts be as Step's, whatever the drive.
func TestForceOfNone(t *testing.T) {
	for _, nodes := range sizes {
		for _, drive := range []uint32{0, 1, mask(everyone(nodes)...), nobody - 1, nobody} {
			a, b := joined(t, nodes), joined(t, nodes)
			for _, x := range []*bus.Bus{a, b} {
				puts(t, x, nodes-1, short(5, 7))
			}
			for i := range 200 {
				faults := uint32(0)
				if i%60 == 31 {
					faults = mask(i % nodes)
				}
				r, l, e := a.Step(faults)
				if e != api.OK {
					t.Fatal(e)
				}
				forces(t, b, faults, 0, drive, r, l...)
			}
			if state(t, a) != state(t, b) {
				t.Errorf("%s, not %s", state(t, b), state(t, a))
			}
		}
	}
}

// TestForceOfSome has nodes that are forced drive 0 or 1, and stay as they were, while the others see what they drive.
func TestForceOfSome(t *testing.T) {
	for _, nodes := range []int{2, 3, 31, 32} {
		last := nodes - 1
		for _, l := range [][]int{{0}, {last}, everyone(last), everyone(nodes)[1:]} {
			var others []int
			for _, node := range everyone(nodes) {
				if !slices.Contains(l, node) {
					others = append(others, node)
				}
			}
			// Those that are forced drive 0; bits of others, and of no node, are 1, or 0.
			for _, drive := range []uint32{driving(l...), 0, mask(others...), nobody - mask(l...) - mask(others...)} {
				b := joined(t, nodes)
				forces(t, b, 0, mask(l...), drive, api.Run{N: 1, Bus: 0, Drive: driving(l...)})
				are(t, b, ctl.InFrame, ctl.Idle, l...)
			}
			for _, drive := range []uint32{mask(l...), nobody} {
				b := joined(t, nodes)
				forces(t, b, 0, mask(l...), drive, api.Run{N: 1, Bus: 1, Drive: nobody})
				are(t, b, ctl.Idle, ctl.Idle)
			}
			// One of them alone drives 0.
			b := joined(t, nodes)
			forces(t, b, 0, mask(l...), driving(l[0]), api.Run{N: 1, Bus: 0, Drive: driving(l[0])})
			are(t, b, ctl.InFrame, ctl.Idle, l...)
			// Those that are not forced drive 0 of their own.
			c := joined(t, nodes)
			puts(t, c, others[0], short(5))
			forces(t, c, 0, mask(l...), nobody, api.Run{N: 1, Bus: 0, Drive: driving(others[0])})
			are(t, c, ctl.InFrame, ctl.Idle, l...)
		}
	}
}

// TestForceOfAll has all nodes forced: the run is what they are forced to, and nothing happens to them.
func TestForceOfAll(t *testing.T) {
	for _, nodes := range sizes {
		all := mask(everyone(nodes)...)
		b := joined(t, nodes)
		for node := range nodes {
			puts(t, b, node, short(5))
		}
		was := looks(t, b)
		forces(t, b, 0, all, nobody, api.Run{N: 1, Bus: 1, Drive: nobody})
		forces(t, b, 0, all, all, api.Run{N: 1, Bus: 1, Drive: nobody})
		forces(t, b, 0, all, 0, api.Run{N: 1, Bus: 0, Drive: nobody - all})
		forces(t, b, all, all, 0, api.Run{N: 1, Bus: 0, Drive: nobody - all})
		forces(t, b, all, all, nobody, api.Run{N: 1, Bus: 1, Drive: nobody})
		for node := range nodes {
			forces(t, b, 0, all, driving(node), api.Run{N: 1, Bus: 0, Drive: driving(node)})
			forces(t, b, 0, all, all-mask(node), api.Run{N: 1, Bus: 0, Drive: driving(node)})
		}
		if l := looks(t, b); !slices.Equal(l, was) || b.Tick() != 16+2*nodes {
			t.Errorf("behind ticks in which all are forced %+v, not %+v; %d ticks", l, was, b.Tick())
		}
		steps(t, b, 0, api.Run{N: 1, Bus: 0, Drive: driving(everyone(nodes)...)})
	}
}

// TestForcedSeesNothing has a node that would drive 0 be forced to 1, and one that would not to 0, and both go on as they were.
func TestForcedSeesNothing(t *testing.T) {
	b := joined(t, 3)
	f := short(0x2AA, 9)
	puts(t, b, 1, f)
	for _, faults := range []uint32{0, mask(1)} {
		forces(t, b, faults, mask(1), nobody, api.Run{N: 1, Bus: 1, Drive: nobody})
		are(t, b, ctl.Idle, ctl.Idle)
	}
	// From the tick 13 on it sends, as if there had been none ahead.
	text := onBus(t, f, true)
	for i := range text {
		r := api.Run{N: 1, Bus: int(text[i] - '0'), Drive: nobody}
		if r.Bus == 0 {
			r.Drive = driving(1)
		}
		var want []api.Event
		switch len(text) - i {
		case 9: // the slot
			r.Drive = driving(0, 2)
		case 2:
			want = []api.Event{{Tick: 13 + i, Node: 0, Kind: api.Received, Frame: f}, {Tick: 13 + i, Node: 2, Kind: api.Received, Frame: f}}
		case 1:
			want = []api.Event{{Tick: 13 + i, Node: 1, Kind: api.Sent, Frame: f}}
		}
		steps(t, b, 0, r, want...)
	}
}

// TestFaultsOfForced has faults of nodes that are forced be nothing, and those of the others be as ever, at each tick of a frame that comes from one that is forced.
func TestFaultsOfForced(t *testing.T) {
	text := onBus(t, short(0x123, 0xA5, 0), true)
	for turned := range text {
		a, b := joined(t, 3), joined(t, 3)
		apart := false
		for i := range text {
			drive := uint32(nobody)
			if text[i] == '0' {
				drive = driving(2)
			}
			faults := uint32(0)
			if i == turned {
				faults = mask(0)
			}
			r, l, e := a.Force(faults, mask(2), drive)
			if e != api.OK {
				t.Fatal(e)
			}
			forces(t, b, faults+mask(2), mask(2), drive, r, l...)
			apart = apart || looks(t, a)[0] != looks(t, a)[1]
		}
		if state(t, a) != state(t, b) || looks(t, a)[2] != (ctl.Look{Mode: ctl.Idle}) {
			t.Errorf("turned at %d: %s, not %s", turned, state(t, b), state(t, a))
		}
		if !apart {
			t.Errorf("turned at %d: the fault of node 0 is nothing to it: %s", turned, state(t, a))
		}
	}
}

// TestForcedFrame has nodes receive a frame that one that is forced drives.
func TestForcedFrame(t *testing.T) {
	b := joined(t, 2)
	f := long(0x1ABCDEF, 0, 255)
	var told []api.Event
	text := onBus(t, f, false)
	for i := range text {
		drive := mask(1) * uint32(text[i]-'0')
		r, l, e := b.Force(0, mask(1), drive)
		wants := driving()
		if text[i] == '0' {
			wants = driving(1)
		}
		if len(text)-i == 9 {
			wants = driving(0)
		}
		if e != api.OK || r.Drive != wants {
			t.Fatalf("at %d %+v, %v", i, r, e)
		}
		told = append(told, l...)
	}
	if want := []api.Event{{Tick: 11 + len(text) - 2, Node: 0, Kind: api.Received, Frame: f}}; !slices.Equal(told, want) {
		t.Errorf("%+v, not %+v", told, want)
	}
}

// TestWhatIsToldIsOnesOwn writes into what was told, and behind it.
func TestWhatIsToldIsOnesOwn(t *testing.T) {
	a, b := joined(t, 3), joined(t, 3)
	for node := range 3 {
		puts(t, a, node, short(node, 1))
		puts(t, b, node, short(node, 1))
	}
	var kept, copies [][]api.Event
	for i := range 300 {
		faults := mask(i%3) * uint32(i/11%2)
		r, l, _ := a.Step(faults)
		s, m, e := b.Step(faults)
		holds(t, fmt.Sprint("Step ", i), r, l, e, s, m)
		kept, copies = append(kept, m), append(copies, slices.Clone(m))
		_ = append(l, api.Event{Tick: -1, Node: -1, Kind: -1})
		for k := range l {
			l[k] = api.Event{Tick: -2, Node: -2, Kind: -2, Frame: short(-2)}
		}
	}
	for i := range kept {
		if !slices.Equal(kept[i], copies[i]) {
			t.Errorf("what was told at %d has turned to %+v", i, kept[i])
		}
	}
	if state(t, a) != state(t, b) {
		t.Errorf("%s, not %s", state(t, a), state(t, b))
	}
}

// TestWander holds buses against paper through long mixed walks, with frames, faults and forces.
func TestWander(t *testing.T) {
	kinds := map[int]bool{}
	for seed := range 40 {
		c := chance(seed*7919 + 3)
		nodes := sizes[c.of(len(sizes))]
		b, p := fresh(t, nodes), newPaper(nodes)
		wrongs, forces := 2+c.of(60), 2+c.of(40)
		for tick := range 1500 {
			if c.of(40) == 0 {
				node, f := c.of(nodes), c.frame()
				if got, want := b.Put(node, f), p.nodes[node].Put(f); got != want {
					t.Fatalf("Put(%d, %+v) = %v, not %v", node, f, got, want)
				}
			}
			faults, forced, drive := c.mask(nodes, wrongs), c.mask(nodes, forces), uint32(c.of(1<<16)<<16+c.of(1<<16))
			if c.of(300) == 0 {
				b, p = b.Clone(), p.twin()
			}
			r, l, e := b.Force(faults, forced, drive)
			s, m := p.force(faults, forced, drive)
			if r != s || !slices.Equal(l, m) || e != api.OK || b.Tick() != p.tick {
				t.Fatalf("seed %d, tick %d: Force(%x, %x, %x) = %+v, %+v, %v, not %+v, %+v", seed, tick, faults, forced, drive, r, l, e, s, m)
			}
			for node, x := range looks(t, b) {
				if x != p.nodes[node].Look() {
					t.Fatalf("seed %d, tick %d: node %d is %+v, not %+v", seed, tick, node, x, p.nodes[node].Look())
				}
			}
			for _, x := range l {
				kinds[x.Kind] = true
			}
		}
	}
	for kind := api.Sent; kind <= api.GoneOff; kind++ {
		if !kinds[kind] {
			t.Errorf("no walk has an event of the kind %d", kind)
		}
	}
}

// chance is numbers that hang on the first one alone.
type chance uint32

// of is a number below another one, that is at most 2^24.
func (c *chance) of(n int) int {
	*c = *c*1664525 + 1013904223
	return int(*c>>8) % n
}

// mask is mostly none, else one node, or some.
func (c *chance) mask(nodes, seldom int) uint32 {
	if c.of(seldom) > 0 {
		return 0
	}
	if c.of(2) > 0 {
		return mask(c.of(nodes))
	}
	return uint32(c.of(1<<16)<<16+c.of(1<<16)) & mask(everyone(nodes)...)
}

// frame is a frame that may be.
func (c *chance) frame() api.Frame {
	f := short(c.of(2048))
	if c.of(2) == 0 {
		f = long(c.of(1<<15)<<14 | c.of(1<<14))
	}
	if c.of(4) == 0 {
		f.ID &= 7
	}
	f.Len = c.of(9)
	if f.Rtr = c.of(4) == 0; f.Rtr {
		return f
	}
	for i := range f.Len {
		f.Data[i] = [4]byte{0, 255, byte(c.of(256)), byte(c.of(256))}[c.of(4)]
	}
	return f
}
