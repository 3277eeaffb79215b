package bus_test

import (
	"cmp"
	"fmt"
	"slices"
	"testing"

	"magneto/api"
	"magneto/bus"
)

// P11.4

// ranked are frames of all kinds, in order, no two alike in arbitration.
func ranked() []api.Frame {
	return []api.Frame{
		short(0), remote(short(0), 0), long(0), remote(long(0), 8), long(1),
		short(5, 255, 255), remote(short(5), 3), long(5 << 18), remote(long(5<<18), 0), long(5<<18|1, 1),
		short(6, 0), short(291, 0, 0, 0, 0, 0, 0, 0, 0), remote(short(2047), 8), long(536870911, 1, 2, 3, 4, 5, 6, 7, 8), remote(long(536870911), 0),
	}
}

// delivers holds what a bus does with frames that are there as its nodes have joined, one queue a node, against what has to be.
func delivers(t *testing.T, queues [][]api.Frame) {
	t.Helper()
	var acts []bus.Act
	for node, queue := range queues {
		for _, f := range queue {
			acts = append(acts, put(0, node, f))
		}
	}
	d, ticks := deliver(t, queues)
	plays(t, len(queues), ticks, acts, d.runs, d.events)
	// Behind the last one there is nothing more.
	d.quiet(50)
	plays(t, len(queues), ticks+50, acts, d.runs, d.events)
}

// TestDeliveryWrittenOut has frames of three nodes, beside one that has none, with their ticks.
func TestDeliveryWrittenOut(t *testing.T) {
	f, g, h := short(0), remote(short(0x555), 0), long(0x15555555, 0x55)
	lengths := []int{len(onBus(t, f, true)), len(onBus(t, g, true)), len(onBus(t, h, true))}
	if !slices.Equal(lengths, []int{50, 45, 74}) {
		t.Fatalf("the frames have %v levels", lengths)
	}
	_, events, e := bus.Play(4, 300, put(5, 3, h), put(8, 0, g), put(11, 1, f))
	want := []api.Event{
		{Tick: 12, Node: 0, Kind: api.Lost}, {Tick: 12, Node: 3, Kind: api.Lost},
		{Tick: 59, Node: 0, Kind: api.Received, Frame: f}, {Tick: 59, Node: 2, Kind: api.Received, Frame: f}, {Tick: 59, Node: 3, Kind: api.Received, Frame: f}, {Tick: 60, Node: 1, Kind: api.Sent, Frame: f},
		{Tick: 77, Node: 3, Kind: api.Lost},
		{Tick: 107, Node: 1, Kind: api.Received, Frame: g}, {Tick: 107, Node: 2, Kind: api.Received, Frame: g}, {Tick: 107, Node: 3, Kind: api.Received, Frame: g}, {Tick: 108, Node: 0, Kind: api.Sent, Frame: g},
		{Tick: 184, Node: 0, Kind: api.Received, Frame: h}, {Tick: 184, Node: 1, Kind: api.Received, Frame: h}, {Tick: 184, Node: 2, Kind: api.Received, Frame: h}, {Tick: 185, Node: 3, Kind: api.Sent, Frame: h},
	}
	if !slices.Equal(events, want) || e != api.OK {
		t.Errorf("%+v, %v, not %+v", events, e, want)
	}
}

// TestDeliveryOfTwo has each two frames, at each two nodes of buses of two and of three, and both at one node.
func TestDeliveryOfTwo(t *testing.T) {
	for i, f := range ranked() {
		for _, g := range ranked()[i+1:] {
			delivers(t, [][]api.Frame{{f}, {g}})
			delivers(t, [][]api.Frame{{g}, {f}})
			delivers(t, [][]api.Frame{{g, f}, nil})
			delivers(t, [][]api.Frame{nil, {f, g}, nil})
			delivers(t, [][]api.Frame{{g}, nil, {f}})
		}
	}
}

// TestDeliveryOfOne has one frame, at the first, a middle and the last node of buses.
func TestDeliveryOfOne(t *testing.T) {
	for _, f := range ranked() {
		for _, nodes := range sizes[1:] {
			for _, node := range []int{0, nodes / 2, nodes - 1} {
				queues := make([][]api.Frame, nodes)
				queues[node] = []api.Frame{f}
				delivers(t, queues)
			}
		}
	}
}

// TestDeliveryOfMany has frames dealt out in many ways, no two of two nodes alike in arbitration.
func TestDeliveryOfMany(t *testing.T) {
	for seed := range 60 {
		c := chance(seed*7919 + 1)
		delivers(t, c.deal(sizes[1+c.of(len(sizes)-1)], 1+c.of(60)))
	}
}

// TestDeliveryOfFullQueues has as many frames as queues take.
func TestDeliveryOfFullQueues(t *testing.T) {
	for _, nodes := range []int{2, 32} {
		queues := make([][]api.Frame, nodes)
		for node := range nodes {
			for k := range 16 {
				f := short(k*nodes+node, byte(k))
				if k%4 == 1 {
					f = long(f.ID<<18|k, 0, byte(node))
				}
				queues[node] = append(queues[node], f)
			}
			slices.Reverse(queues[node])
		}
		delivers(t, queues)
	}
}

// TestDeliveryOfAlike has frames alike in arbitration at one node be sent as they came.
func TestDeliveryOfAlike(t *testing.T) {
	delivers(t, [][]api.Frame{{short(5, 9), short(5), short(5, 9), short(5, 1)}, {short(4), remote(short(5), 0), short(6), short(4, 8)}})
	delivers(t, [][]api.Frame{nil, {long(5, 9), long(5), remote(long(5), 3), remote(long(5), 0)}, {long(6), long(4)}})
}

// deal has frames at nodes, no two of two nodes alike in arbitration, and no more than a queue takes.
func (c *chance) deal(nodes, frames int) [][]api.Frame {
	queues := make([][]api.Frame, nodes)
	owners := map[string]int{}
	for range frames {
		f, node := c.frame(), c.of(nodes)
		if owner, owned := owners[arbitration(f)]; owned {
			node = owner
		}
		if len(queues[node]) < 16 {
			owners[arbitration(f)] = node
			queues[node] = append(queues[node], f)
		}
	}
	return queues
}

// levels are the bus's, and when which frame is sent.
func levels(runs []api.Run, events []api.Event) string {
	text := ""
	for _, r := range byTicks(runs) {
		text += fmt.Sprint(r.Bus)
	}
	for _, x := range events {
		if x.Kind == api.Sent {
			text += fmt.Sprint(" ", x.Tick, x.Frame)
		}
	}
	return text
}

// TestSameFramesAtOtherNodes deals out the same frames in all ways among nodes: the bus has the same levels.
func TestSameFramesAtOtherNodes(t *testing.T) {
	l := []api.Frame{short(5, 3), long(5 << 18), remote(short(5), 2), short(4, 1, 2)}
	want := ""
	for way := range 3 * 3 * 3 * 3 {
		queues, acts := make([][]api.Frame, 3), []bus.Act(nil)
		for i, left := 0, way; i < len(l); i, left = i+1, left/3 {
			queues[left%3] = append(queues[left%3], l[i])
			acts = append(acts, put(i, left%3, l[i]))
		}
		delivers(t, queues)
		runs, events, e := bus.Play(3, 350, acts...)
		got := levels(runs, events)
		if want == "" {
			want = got
		}
		if got != want || e != api.OK {
			t.Errorf("%v: %s, %v, not %s", queues, got, e, want)
		}
	}
}

// orders are all orders of so many nodes.
func orders(nodes int) [][]int {
	if nodes == 0 {
		return [][]int{nil}
	}
	var all [][]int
	for _, l := range orders(nodes - 1) {
		for place := range nodes {
			all = append(all, slices.Insert(slices.Clone(l), place, nodes-1))
		}
	}
	return all
}

// renamedMask is a mask of nodes that have other numbers.
func renamedMask(n uint32, names []int) uint32 {
	text := []byte(digits(n))
	for node, name := range names {
		text[name] = digits(n)[node]
	}
	return number(string(text))
}

// renamedRuns are runs of nodes that have other numbers.
func renamedRuns(l []api.Run, names []int) []api.Run {
	l = slices.Clone(l)
	for i := range l {
		l[i].Drive = renamedMask(l[i].Drive, names)
	}
	return l
}

// renamedEvents are events of nodes that have other numbers; at each tick those of the least one first.
func renamedEvents(l []api.Event, names []int) []api.Event {
	l = slices.Clone(l)
	for i := range l {
		l[i].Node = names[l[i].Node]
	}
	return slices.SortedStableFunc(slices.Values(l), func(a, b api.Event) int {
		return cmp.Or(a.Tick-b.Tick, a.Node-b.Node)
	})
}

// isAlike has a play with other numbers of nodes tell the same, but for the numbers.
func isAlike(t *testing.T, nodes, ticks int, acts []bus.Act, names []int) {
	t.Helper()
	runs, events, e := bus.Play(nodes, ticks, acts...)
	if e != api.OK {
		t.Fatal(e)
	}
	acts = slices.Clone(acts)
	for i := range acts {
		acts[i].Node = names[acts[i].Node]
	}
	tells(t, nodes, ticks, acts, renamedRuns(runs, names), renamedEvents(events, names))
}

// TestNodesAreAlike has plays with faults, and frames alike in arbitration, be the same whichever number each node has.
func TestNodesAreAlike(t *testing.T) {
	for _, nodes := range []int{2, 3, 4} {
		for seed := range 5 {
			c := chance(seed*31 + nodes)
			acts := c.acts(nodes, 500)
			for _, names := range orders(nodes) {
				isAlike(t, nodes, 500, acts, names)
			}
		}
	}
	for seed := range 20 {
		c := chance(seed*131 + 9)
		nodes := sizes[3+c.of(len(sizes)-3)]
		isAlike(t, nodes, 500, c.acts(nodes, 500), c.names(nodes))
	}
}

// names are other numbers of nodes.
func (c *chance) names(nodes int) []int {
	names := everyone(nodes)
	for i := range names {
		k := c.of(i + 1)
		names[i], names[k] = names[k], names[i]
	}
	return names
}

// TestForcedNodesAreAlike has ticks in which nodes are forced be the same whichever number each node has.
func TestForcedNodesAreAlike(t *testing.T) {
	for seed := range 30 {
		c := chance(seed*17 + 2)
		nodes := sizes[c.of(len(sizes))]
		names := c.names(nodes)
		a, b := fresh(t, nodes), fresh(t, nodes)
		for range 600 {
			if c.of(40) == 0 {
				node, f := c.of(nodes), c.frame()
				if e, x := a.Put(node, f), b.Put(names[node], f); e != x {
					t.Fatalf("%v, %v", e, x)
				}
			}
			faults, forced, drive := c.mask(nodes, 40), c.mask(nodes, 20), uint32(c.of(1<<16))<<16+uint32(c.of(1<<16))
			r, l, e := a.Force(faults, forced, drive)
			if e != api.OK {
				t.Fatal(e)
			}
			forces(t, b, renamedMask(faults, names), renamedMask(forced, names), renamedMask(drive, names), renamedRuns([]api.Run{r}, names)[0], renamedEvents(l, names)...)
		}
		for node, x := range looks(t, a) {
			if y := looks(t, b)[names[node]]; x != y {
				t.Errorf("node %d is %+v, as node %d %+v", node, x, names[node], y)
			}
		}
	}
}

// TestEachOnce has frames put in at any ticks: each is sent once, and received once by each other node, at one tick, right ahead.
func TestEachOnce(t *testing.T) {
	for seed := range 40 {
		c := chance(seed*1031 + 3)
		nodes := sizes[1+c.of(len(sizes)-1)]
		queues := c.deal(nodes, 1+c.of(30))
		var acts []bus.Act
		for node, queue := range queues {
			for _, f := range queue {
				acts = append(acts, put(c.of(2000), node, f))
			}
		}
		_, events, e := bus.Play(nodes, 8000, acts...)
		if e != api.OK {
			t.Fatal(e)
		}
		eachOnce(t, nodes, acts, slices.DeleteFunc(events, func(x api.Event) bool { return x.Kind == api.Lost }))
	}
}

// eachOnce holds events, but those of nodes that lose, against the frames that were put in.
func eachOnce(t *testing.T, nodes int, acts []bus.Act, events []api.Event) {
	t.Helper()
	if len(events) != nodes*len(acts) {
		t.Fatalf("%d events of %d frames, and %d nodes", len(events), len(acts), nodes)
	}
	left := slices.Clone(acts)
	for l := range slices.Chunk(events, nodes) {
		sent := l[nodes-1]
		i := slices.IndexFunc(left, func(a bus.Act) bool { return a.Node == sent.Node && a.Frame == sent.Frame })
		if sent.Kind != api.Sent || i < 0 {
			t.Fatalf("%+v of %+v", sent, left)
		}
		left = slices.Delete(left, i, i+1)
		others := slices.DeleteFunc(everyone(nodes), func(node int) bool { return node == sent.Node })
		for k, node := range others {
			if want := (api.Event{Tick: sent.Tick - 1, Node: node, Kind: api.Received, Frame: sent.Frame}); l[k] != want {
				t.Fatalf("%+v, not %+v", l[k], want)
			}
		}
	}
}
