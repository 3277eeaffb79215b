package bus_test

import (
	"math"
	"slices"
	"testing"

	"magneto/api"
	"magneto/bus"
	"magneto/ctl"
)

// put is an act that puts a frame in.
func put(tick, node int, f api.Frame) bus.Act { return bus.Act{Tick: tick, Node: node, Frame: f} }

// fault is an act that is one.
func fault(tick, node int) bus.Act { return bus.Act{Tick: tick, Node: node, Fault: true} }

// most is the greatest number of ticks of a play.
const most = 1048576

// answers holds an error of Check, and Play's, against what has to be: beside an error there is nothing else.
func answers(t *testing.T, nodes int, want api.Errno, l ...bus.Act) {
	t.Helper()
	if e := bus.Check(nodes, l...); e != want {
		t.Errorf("Check(%d, %+v) = %v, not %v", nodes, l, e, want)
	}
	refuses(t, nodes, 0, want, l...)
	refuses(t, nodes, 30, want, l...)
	if want == api.OK {
		want = api.ErrRange
	}
	for _, ticks := range []int{math.MinInt, -1, most + 1, math.MaxInt} {
		refuses(t, nodes, ticks, want, l...)
	}
}

// refuses holds an error of Play against what has to be.
func refuses(t *testing.T, nodes, ticks int, want api.Errno, l ...bus.Act) {
	t.Helper()
	runs, events, e := bus.Play(nodes, ticks, l...)
	if e != want || e != api.OK && (len(runs) != 0 || len(events) != 0) {
		t.Errorf("Play(%d, %d, %+v) = %+v, %+v, %v, not %v", nodes, ticks, l, runs, events, e, want)
	}
}

// tells holds a play's runs and events, written out, against what has to be.
func tells(t *testing.T, nodes, ticks int, acts []bus.Act, runs []api.Run, events []api.Event) {
	t.Helper()
	got, told, e := bus.Play(nodes, ticks, acts...)
	if !slices.Equal(got, runs) || !slices.Equal(told, events) || e != api.OK {
		t.Errorf("Play(%d, %d, %+v) = %+v, %+v, %v, not %+v, %+v", nodes, ticks, acts, got, told, e, runs, events)
	}
}

// P11.3: Check

func TestCheck(t *testing.T) {
	for nodes := 1; nodes <= 32; nodes++ {
		answers(t, nodes, api.OK)
		for node := range nodes {
			answers(t, nodes, api.OK, put(0, node, short(2047)), put(40, node, long(536870911, 1, 2, 3, 4, 5, 6, 7, 8)), fault(0, node), fault(math.MaxInt, node), put(math.MaxInt, node, remote(long(0), 8)))
		}
	}
}

func TestCheckOfNodesThatMayNotBe(t *testing.T) {
	for _, nodes := range noSizes {
		answers(t, nodes, api.ErrRange)
		answers(t, nodes, api.ErrRange, put(0, 0, short(5)))
		answers(t, nodes, api.ErrRange, put(0, 0, short(-1)))
		answers(t, nodes, api.ErrRange, put(-1, nodes, short(-1)), fault(0, 0))
	}
}

func TestCheckOfTicks(t *testing.T) {
	for _, tick := range []int{math.MinInt, math.MinInt32, -1 << 32, -most, -2, -1} {
		for _, nodes := range sizes {
			answers(t, nodes, api.ErrRange, put(tick, 0, short(5)))
			answers(t, nodes, api.ErrRange, fault(tick, nodes-1))
			answers(t, nodes, api.ErrRange, put(tick, 0, short(-1)))
			answers(t, nodes, api.ErrRange, put(3, 0, short(5)), fault(3, 0), put(tick, 0, short(5)))
		}
	}
	for _, tick := range []int{0, 1, 29, 30, most - 1, most, most + 1, 1 << 32, 1 << 40, math.MaxInt} {
		answers(t, 2, api.OK, put(tick, 0, short(5)), fault(tick, 1))
		answers(t, 2, api.ErrFrame, put(tick, 0, short(2048)))
	}
}

func TestCheckOfNoNode(t *testing.T) {
	for _, nodes := range sizes {
		for _, node := range noNodes(nodes) {
			answers(t, nodes, api.ErrRange, put(0, node, short(5)))
			answers(t, nodes, api.ErrRange, fault(0, node))
			answers(t, nodes, api.ErrRange, put(0, node, short(-1)))
			answers(t, nodes, api.ErrRange, put(1<<40, node, short(5)))
			answers(t, nodes, api.ErrRange, put(0, 0, short(5)), fault(0, nodes-1), fault(9, node))
		}
	}
}

func TestCheckOfFrames(t *testing.T) {
	for _, nodes := range sizes {
		for _, f := range wrongFrames() {
			answers(t, nodes, api.ErrFrame, put(0, 0, f))
			answers(t, nodes, api.ErrFrame, put(1<<40, nodes-1, f))
			answers(t, nodes, api.ErrFrame, put(5, 0, short(5)), fault(4, 0), put(3, nodes-1, f))
			wrong := fault(0, nodes-1)
			wrong.Frame = f
			answers(t, nodes, api.OK, wrong)
			answers(t, nodes, api.OK, put(0, 0, short(5)), wrong, wrong, put(0, 0, short(5)))
			answers(t, nodes, api.ErrFrame, wrong, put(0, 0, f))
		}
	}
}

// TestCheckOfSeveral has the first act that is wrong tell the error, whatever its tick is.
func TestCheckOfSeveral(t *testing.T) {
	right, frame, node, tick := put(9, 1, short(5)), put(8, 1, short(-1)), put(7, 2, short(5)), put(-6, 1, short(5))
	answers(t, 2, api.ErrFrame, right, frame, node, tick)
	answers(t, 2, api.ErrFrame, frame, tick)
	answers(t, 2, api.ErrRange, right, right, node, frame)
	answers(t, 2, api.ErrRange, tick, frame, right)
	answers(t, 2, api.ErrRange, fault(-1, 0), frame)
	answers(t, 2, api.ErrFrame, frame, fault(-1, 0))
	answers(t, 2, api.ErrRange, fault(0, 2), frame)
	answers(t, 2, api.ErrFrame, fault(0, 1), frame, fault(0, 2))
}

// P11.3: Play

// TestPlayOfTwo is the chapter's example.
func TestPlayOfTwo(t *testing.T) {
	acts := []bus.Act{put(0, 0, short(0))}
	runs := []api.Run{{N: 11, Bus: 1, Drive: nobody}}
	for range 6 {
		runs = append(runs, api.Run{N: 5, Bus: 0, Drive: 0xFFFFFFFE}, api.Run{N: 1, Bus: 1, Drive: nobody})
	}
	runs = append(runs, api.Run{N: 4, Bus: 0, Drive: 0xFFFFFFFE}, api.Run{N: 1, Bus: 1, Drive: nobody}, api.Run{N: 1, Bus: 0, Drive: 0xFFFFFFFD}, api.Run{N: 11, Bus: 1, Drive: nobody})
	tells(t, 2, 64, acts, runs, []api.Event{{Tick: 59, Node: 1, Kind: api.Received}, {Tick: 60, Node: 0, Kind: api.Sent}})
	got, _, _ := bus.Play(2, 64, acts...)
	text := onBus(t, short(0), true)
	for i, r := range byTicks(got)[11:61] {
		if len(text) != 50 || r.Bus != int(text[i]-'0') {
			t.Errorf("at the tick %d the bus is %d", 11+i, r.Bus)
		}
	}
}

// TestPlayOfOne has nobody acknowledge: a bus of one node.
func TestPlayOfOne(t *testing.T) {
	runs := []api.Run{{N: 11, Bus: 1, Drive: nobody}}
	for range 6 {
		runs = append(runs, api.Run{N: 5, Bus: 0, Drive: 0xFFFFFFFE}, api.Run{N: 1, Bus: 1, Drive: nobody})
	}
	runs = append(runs, api.Run{N: 4, Bus: 0, Drive: 0xFFFFFFFE}, api.Run{N: 2, Bus: 1, Drive: nobody}, api.Run{N: 6, Bus: 0, Drive: 0xFFFFFFFE}, api.Run{N: 11, Bus: 1, Drive: nobody}, api.Run{N: 1, Bus: 0, Drive: 0xFFFFFFFE})
	tells(t, 1, 71, []bus.Act{put(0, 0, short(0))}, runs, []api.Event{{Tick: 52, Kind: api.AckError}})
}

func TestPlayOfFewTicks(t *testing.T) {
	for _, nodes := range sizes {
		last := nodes - 1
		acts := []bus.Act{put(0, 0, short(5)), put(11, last, short(5)), fault(0, last), fault(11, 0)}
		tells(t, nodes, 0, nil, nil, nil)
		tells(t, nodes, 0, acts, nil, nil)
		tells(t, nodes, 1, nil, []api.Run{{N: 1, Bus: 1, Drive: nobody}}, nil)
		tells(t, nodes, 1, acts, []api.Run{{N: 1, Bus: 1, Drive: nobody}}, nil)
		tells(t, nodes, 2, nil, []api.Run{{N: 2, Bus: 1, Drive: nobody}}, nil)
		tells(t, nodes, 11, []bus.Act{put(0, 0, short(5))}, []api.Run{{N: 11, Bus: 1, Drive: nobody}}, nil)
		tells(t, nodes, 12, []bus.Act{put(0, 0, short(5))}, []api.Run{{N: 11, Bus: 1, Drive: nobody}, {N: 1, Bus: 0, Drive: driving(0)}}, nil)
		tells(t, nodes, 200, nil, []api.Run{{N: 200, Bus: 1, Drive: nobody}}, nil)
	}
}

// TestPlayOfManyTicks has as many ticks as there may be, with acts at the last one, and behind.
func TestPlayOfManyTicks(t *testing.T) {
	late := []bus.Act{put(most, 1, short(5)), fault(most, 0), put(math.MaxInt, 0, short(5))}
	tells(t, 1, most, nil, []api.Run{{N: most, Bus: 1, Drive: nobody}}, nil)
	tells(t, 2, most, late, []api.Run{{N: most, Bus: 1, Drive: nobody}}, nil)
	acts := append(late, put(most-1, 1, short(5)), put(most-1, 0, short(5)), fault(most-1, 1))
	tells(t, 2, most, acts, []api.Run{{N: most - 1, Bus: 1, Drive: nobody}, {N: 1, Bus: 0, Drive: driving(0, 1)}}, []api.Event{{Tick: most - 1, Node: 1, Kind: api.BitError}})
	tells(t, 2, most-1, acts, []api.Run{{N: most - 1, Bus: 1, Drive: nobody}}, nil)
}

// TestActsAtTheirTicks has a frame begin at the tick at which it is put in, and a level be turned at the tick of its fault alone.
func TestActsAtTheirTicks(t *testing.T) {
	for tick := 11; tick < 40; tick++ {
		quiet := api.Run{N: tick, Bus: 1, Drive: nobody}
		begins := []bus.Act{put(tick, 1, short(5))}
		tells(t, 2, tick+1, begins, []api.Run{quiet, {N: 1, Bus: 0, Drive: driving(1)}}, nil)
		// Node 1 does not see its own 0, and has a flag of six levels; by the sixth 0 in a row node 0 has an error, and a flag, too.
		turned := append(begins, fault(tick, 1))
		wrong := []api.Event{{Tick: tick, Node: 1, Kind: api.BitError}, {Tick: tick + 5, Node: 0, Kind: api.StuffError}}
		tells(t, 2, tick+1, turned, []api.Run{quiet, {N: 1, Bus: 0, Drive: driving(1)}}, wrong[:1])
		tells(t, 2, tick+8, turned, []api.Run{quiet, {N: 6, Bus: 0, Drive: driving(1)}, {N: 1, Bus: 0, Drive: driving(0, 1)}, {N: 1, Bus: 0, Drive: driving(0)}}, wrong)
		// Node 0 alone has a frame begin, of which six levels 1 come then.
		tells(t, 2, tick+8, []bus.Act{fault(tick, 0)}, []api.Run{{N: tick + 7, Bus: 1, Drive: nobody}, {N: 1, Bus: 0, Drive: driving(0)}}, []api.Event{{Tick: tick + 6, Node: 0, Kind: api.StuffError}})
	}
}

// TestTwoFaultsOfOneNode has a fault that is told twice be one, and faults of several nodes be theirs.
func TestTwoFaultsOfOneNode(t *testing.T) {
	for _, acts := range [][]bus.Act{{fault(20, 1)}, {fault(20, 1), fault(20, 1)}, {fault(20, 1), fault(21, 1), fault(20, 1)}} {
		_, events, e := bus.Play(3, 60, acts...)
		if e != api.OK || len(events) == 0 || events[0].Node != 1 {
			t.Errorf("%+v: %+v, %v", acts, events, e)
		}
	}
	one, told, _ := bus.Play(3, 60, fault(20, 1))
	tells(t, 3, 60, []bus.Act{fault(20, 1), fault(20, 1)}, one, told)
	tells(t, 3, 60, []bus.Act{fault(20, 1), fault(20, 1), fault(20, 1)}, one, told)
	var want []api.Event
	for _, node := range []int{0, 2} {
		want = append(want, api.Event{Tick: 15, Node: node, Kind: api.BitError})
	}
	acts := []bus.Act{put(3, 0, short(5)), put(3, 1, short(5)), put(3, 2, short(5)), fault(15, 2), fault(15, 0)}
	// The 5th level is 0: two see it as 1.
	tells(t, 3, 16, acts, []api.Run{{N: 11, Bus: 1, Drive: nobody}, {N: 5, Bus: 0, Drive: driving(0, 1, 2)}}, want)
}

// TestFaultWithFrame has the frame of an act that is a fault be nothing.
func TestFaultWithFrame(t *testing.T) {
	for _, f := range append(wrongFrames(), short(5), long(0, 1)) {
		for _, tick := range []int{0, 11, 20, 45} {
			with := fault(tick, 1)
			with.Frame = f
			runs, events, _ := bus.Play(2, 200, put(0, 0, short(6, 7)), fault(tick, 1))
			tells(t, 2, 200, []bus.Act{put(0, 0, short(6, 7)), with}, runs, events)
		}
	}
}

// sentBy are the frames that a node tells Sent of.
func sentBy(events []api.Event, node int) []api.Frame {
	var l []api.Frame
	for _, x := range events {
		if x.Kind == api.Sent && x.Node == node {
			l = append(l, x.Frame)
		}
	}
	return l
}

// TestActsOfOneTickInOrder has frames alike on the bus be sent as they were put in, whatever stands between.
func TestActsOfOneTickInOrder(t *testing.T) {
	a, b, c := short(5, 3), short(5, 1, 1), short(5, 2)
	for _, l := range [][]api.Frame{{a, b, c}, {a, c, b}, {b, a, c}, {b, c, a}, {c, a, b}, {c, b, a}} {
		for _, acts := range [][]bus.Act{
			{put(4, 0, l[0]), put(4, 0, l[1]), put(4, 0, l[2])},
			{put(4, 0, l[0]), fault(700, 1), put(4, 0, l[1]), put(9, 1, short(9)), put(4, 0, l[2]), put(0, 1, short(8))},
			// Ticks that stand in another order.
			{put(6, 0, l[2]), put(5, 0, l[1]), put(4, 0, l[0])},
			{put(5, 0, l[1]), put(5, 0, l[2]), put(4, 0, l[0])},
			{put(9, 0, l[1]), put(3, 0, l[0]), put(9, 0, l[2])},
		} {
			_, events, e := bus.Play(2, 600, acts...)
			if got := sentBy(events, 0); !slices.Equal(got, l) || e != api.OK {
				t.Errorf("%+v: sent %+v, %v, not %+v", acts, got, e, l)
			}
		}
	}
}

// TestPlayWithPutRefused has the frames that come as 16 are in be nothing, by the order of acts, not that of frames.
func TestPlayWithPutRefused(t *testing.T) {
	var acts []bus.Act
	var want []api.Frame
	for k := range 20 {
		f := short(100-k, byte(k))
		acts = append(acts, put(10, 1, f))
		if k < 16 {
			want = append(want, f)
		}
	}
	slices.Reverse(want)
	acts = append(acts, put(10, 0, short(1)), put(12, 1, short(0)))
	_, events, e := bus.Play(2, 3000, acts...)
	if got := sentBy(events, 1); !slices.Equal(got, want) || e != api.OK {
		t.Errorf("sent %+v, %v, not %+v", got, e, want)
	}
	if got := sentBy(events, 0); !slices.Equal(got, []api.Frame{short(1)}) {
		t.Errorf("node 0 sent %+v", got)
	}
	// As one of them has been sent there is room for one again.
	again := slices.Concat(acts, []bus.Act{put(150, 1, short(3)), put(150, 1, short(2)), put(150, 1, short(4))})
	_, events, e = bus.Play(2, 3000, again...)
	if got := sentBy(events, 1); len(got) != 17 || !slices.Contains(got, short(3)) || e != api.OK {
		t.Errorf("sent %+v, %v", got, e)
	}
	runs, events := playOnPaper(2, 3000, again)
	plays(t, 2, 3000, again, runs, events)
}

// TestActsThatAreNotReached has acts at ticks behind the last one be nothing.
func TestActsThatAreNotReached(t *testing.T) {
	acts := []bus.Act{put(0, 0, short(6, 7)), fault(30, 1), put(40, 1, short(9))}
	for _, ticks := range []int{1, 12, 31, 41, 100, 200} {
		runs, events, _ := bus.Play(2, ticks, acts...)
		late := slices.Concat([]bus.Act{put(ticks, 1, short(0)), fault(ticks, 0)}, acts, []bus.Act{put(ticks+1, 0, short(0)), put(1<<40, 0, short(0)), fault(math.MaxInt, 1)})
		tells(t, 2, ticks, late, runs, events)
	}
}

// TestBeginningsOfPlays has a play of fewer ticks be the beginning of one of more.
func TestBeginningsOfPlays(t *testing.T) {
	acts := []bus.Act{put(0, 0, short(6, 7)), put(3, 1, long(9)), fault(30, 1), put(40, 2, short(9)), fault(200, 0)}
	runs, events := playOnPaper(3, 500, acts)
	for ticks := range 500 {
		told := slices.DeleteFunc(slices.Clone(events), func(x api.Event) bool { return x.Tick >= ticks })
		plays(t, 3, ticks, acts, runs[:ticks], told)
	}
}

// TestRunsAreJoined has ticks with the same be one run, and others apart: such as differ in who drives 0, the bus being 0 in both, too. (None differ in the bus alone: that is told by who drives 0.)
func TestRunsAreJoined(t *testing.T) {
	// Both drive the same as long as their IDs are; node 0 loses; node 1 sees an added level as 0, and its flag is answered by node 0's.
	acts := []bus.Act{put(0, 0, short(0x7)), put(0, 1, short(0x4)), fault(27, 1)}
	tells(t, 2, 52, acts, []api.Run{
		{N: 11, Bus: 1, Drive: nobody},
		{N: 5, Bus: 0, Drive: driving(0, 1)}, {N: 1, Bus: 1, Drive: nobody},
		{N: 4, Bus: 0, Drive: driving(0, 1)}, {N: 1, Bus: 1, Drive: nobody},
		{N: 5, Bus: 0, Drive: driving(1)}, {N: 1, Bus: 1, Drive: nobody},
		{N: 6, Bus: 0, Drive: driving(1)}, {N: 6, Bus: 0, Drive: driving(0)},
		{N: 11, Bus: 1, Drive: nobody}, {N: 1, Bus: 0, Drive: driving(0, 1)},
	}, []api.Event{{Tick: 22, Node: 0, Kind: api.Lost}, {Tick: 27, Node: 1, Kind: api.BitError}, {Tick: 33, Node: 0, Kind: api.StuffError}})
}

// TestBusOfRuns has the bus be 1 in a run just if nobody drives 0.
func TestBusOfRuns(t *testing.T) {
	for seed := range 20 {
		c := chance(seed*31 + 7)
		nodes := sizes[c.of(len(sizes))]
		runs, _, e := bus.Play(nodes, 800, c.acts(nodes, 800)...)
		for _, r := range runs {
			if (r.Bus == 1) != (r.Drive == nobody) || r.Bus != 0 && r.Bus != 1 || r.Drive|mask(everyone(nodes)...) != nobody {
				t.Errorf("a run of %d nodes is %+v, %v", nodes, r, e)
			}
		}
	}
}

// TestPlayAgain has a play be the same each time, and as a bus of one's own, step by step.
func TestPlayAgain(t *testing.T) {
	acts := []bus.Act{put(0, 0, short(6, 7)), put(3, 1, long(9)), fault(30, 1), put(40, 2, short(9)), fault(200, 0)}
	runs, events, _ := bus.Play(3, 500, acts...)
	for range 5 {
		tells(t, 3, 500, acts, runs, events)
	}
	b := fresh(t, 3)
	var ticks []api.Run
	var told []api.Event
	for tick := range 500 {
		faults := uint32(0)
		for _, a := range acts {
			if a.Tick == tick && a.Fault {
				faults += mask(a.Node)
			} else if a.Tick == tick {
				puts(t, b, a.Node, a.Frame)
			}
		}
		r, l, e := b.Step(faults)
		if e != api.OK {
			t.Fatal(e)
		}
		ticks, told = append(ticks, r), append(told, l...)
	}
	plays(t, 3, 500, acts, ticks, told)
}

// TestActsStay has acts, and what stands behind them, be as they were.
func TestActsStay(t *testing.T) {
	room := []bus.Act{put(9, 1, short(6, 7)), put(3, 0, long(9)), fault(30, 1), put(9, 1, short(6, 8)), put(77, 1, short(77)), fault(78, 0)}
	was := slices.Clone(room)
	acts := room[:4]
	runs, events, e := bus.Play(2, 400, acts...)
	if bus.Check(2, acts...) != api.OK || e != api.OK || !slices.Equal(room, was) {
		t.Errorf("acts are %+v, not %+v; %v", room, was, e)
	}
	// What is answered is the caller's.
	keptRuns, keptEvents := slices.Clone(runs), slices.Clone(events)
	again, told, _ := bus.Play(2, 400, acts...)
	for i := range again {
		again[i] = api.Run{N: -1}
	}
	for i := range told {
		told[i] = api.Event{Tick: -1}
	}
	if !slices.Equal(runs, keptRuns) || !slices.Equal(events, keptEvents) {
		t.Error("two plays share their answers")
	}
	for i := range room {
		room[i] = bus.Act{Tick: -1}
	}
	if !slices.Equal(runs, keptRuns) || !slices.Equal(events, keptEvents) {
		t.Error("a play shares its answers with acts")
	}
	tells(t, 2, 400, was[:4], keptRuns, keptEvents)
}

// TestPlaysOnPaper holds plays of mixed acts against paper.
func TestPlaysOnPaper(t *testing.T) {
	for seed := range 60 {
		c := chance(seed*104729 + 11)
		nodes, ticks := sizes[c.of(len(sizes))], c.of(1200)
		acts := c.acts(nodes, ticks)
		runs, events := playOnPaper(nodes, ticks, acts)
		plays(t, nodes, ticks, acts, runs, events)
	}
}

// acts are mixed acts, in any order of ticks, some behind the last one.
func (c *chance) acts(nodes, ticks int) []bus.Act {
	var l []bus.Act
	for range c.of(60) {
		tick, node := c.of(ticks+20), c.of(nodes)
		if c.of(4) == 0 {
			tick = 20
		}
		for range 1 + c.of(2)*c.of(20) {
			l = append(l, put(tick, node, c.frame()))
		}
	}
	for range c.of(30) {
		a := fault(c.of(ticks+20), c.of(nodes))
		if c.of(2) == 0 {
			a.Frame = wrongFrames()[c.of(5)]
		}
		l = append(l, a)
	}
	for i := range l {
		k := c.of(i + 1)
		l[i], l[k] = l[k], l[i]
	}
	return l
}

// TestOneFault has a bus go on behind a fault of any node at any tick of a frame: that is sent, and all are idle again.
func TestOneFault(t *testing.T) {
	f := short(0x2AA, 1)
	for tick := range len(onBus(t, f, true)) + 4 {
		for node := range 3 {
			_, events, e := bus.Play(3, 400, put(0, 0, f), fault(11+tick, node))
			if got := sentBy(events, 0); !slices.Equal(got, []api.Frame{f}) || e != api.OK {
				t.Errorf("a fault of node %d at %d: sent %+v, %v", node, 11+tick, got, e)
			}
			b := joined(t, 3)
			puts(t, b, 0, f)
			for i := range 389 {
				faults := uint32(0)
				if i == tick {
					faults = mask(node)
				}
				b.Step(faults)
			}
			are(t, b, ctl.Idle, ctl.Idle)
		}
	}
}
