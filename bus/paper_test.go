package bus_test

import (
	"fmt"
	"slices"
	"strconv"
	"strings"
	"testing"

	"magneto/api"
	"magneto/bus"
	"magneto/codec"
	"magneto/ctl"
)

// A bus, written down apart from the program, in the document's own words. Levels are texts of 0 and 1, that of node 0 first.

// nobody is a drive in which no node drives 0.
const nobody = 1<<32 - 1

// mask is a mask of some nodes.
func mask(nodes ...int) uint32 {
	text := []byte(strings.Repeat("0", 32))
	for _, node := range nodes {
		text[node] = '1'
	}
	return number(string(text))
}

// driving is a drive in which some nodes drive 0.
func driving(nodes ...int) uint32 { return nobody - mask(nodes...) }

// everyone are so many nodes.
func everyone(nodes int) []int {
	var l []int
	for node := range nodes {
		l = append(l, node)
	}
	return l
}

// digits are the 32 bits of a number, that of node 0 first.
func digits(n uint32) string {
	text := []byte(fmt.Sprintf("%032b", n))
	slices.Reverse(text)
	return string(text)
}

// number is that of 32 bits.
func number(digits string) uint32 {
	text := []byte(digits)
	slices.Reverse(text)
	n, err := strconv.ParseUint(string(text), 2, 32)
	if err != nil {
		panic(err)
	}
	return uint32(n)
}

// paper is a bus on paper, of nodes of the layer below.
type paper struct {
	nodes []*ctl.Node
	tick  int
}

func newPaper(nodes int) *paper {
	p := &paper{}
	for range nodes {
		p.nodes = append(p.nodes, ctl.New())
	}
	return p
}

// twin is a bus on paper of its own, the same.
func (p *paper) twin() *paper {
	q := &paper{tick: p.tick}
	for _, n := range p.nodes {
		q.nodes = append(q.nodes, n.Clone())
	}
	return q
}

// row are the 32 levels that are driven: those that are forced, or the nodes' own, and 1 behind the nodes.
func (p *paper) row(forced, drive string) string {
	row := strings.Repeat("1", 32-len(p.nodes))
	for i := len(p.nodes) - 1; i >= 0; i-- {
		if forced[i] == '1' {
			row = drive[i:i+1] + row
		} else {
			row = strconv.Itoa(p.nodes[i].Drive()) + row
		}
	}
	return row
}

// runOf is the run of a tick, of the 32 levels that are driven.
func runOf(row string) api.Run {
	r := api.Run{N: 1, Bus: 1, Drive: number(row)}
	if strings.Contains(row, "0") {
		r.Bus = 0
	}
	return r
}

// force is a tick.
func (p *paper) force(faults, forced, drive uint32) (api.Run, []api.Event) {
	r := runOf(p.row(digits(forced), digits(drive)))
	var told []api.Event
	for i, n := range p.nodes {
		if digits(forced)[i] == '1' {
			continue
		}
		sees := r.Bus
		if digits(faults)[i] == '1' {
			sees = 1 - sees
		}
		l, e := n.Step(sees)
		if e != api.OK {
			panic(e)
		}
		for _, x := range l {
			told = append(told, api.Event{Tick: p.tick, Node: i, Kind: x.Kind, Frame: x.Frame})
		}
	}
	p.tick++
	return r, told
}

// playOnPaper is what ticks with acts are, a run each tick, and the events.
func playOnPaper(nodes, ticks int, acts []bus.Act) ([]api.Run, []api.Event) {
	p := newPaper(nodes)
	var runs []api.Run
	var events []api.Event
	for tick := range ticks {
		wrong := map[int]bool{}
		for _, a := range acts {
			if a.Tick == tick && a.Fault {
				wrong[a.Node] = true
			} else if a.Tick == tick {
				p.nodes[a.Node].Put(a.Frame)
			}
		}
		faults := uint32(0)
		for node := range wrong {
			faults += mask(node)
		}
		r, told := p.force(faults, 0, 0)
		runs, events = append(runs, r), append(events, told...)
	}
	return runs, events
}

// byTicks are runs, a run each tick.
func byTicks(l []api.Run) []api.Run {
	var ticks []api.Run
	for _, r := range l {
		for range r.N {
			ticks = append(ticks, api.Run{N: 1, Bus: r.Bus, Drive: r.Drive})
		}
	}
	return ticks
}

// differ tells where two rows differ first; -1: nowhere.
func differ[T comparable](a, b []T) int {
	for i := range max(len(a), len(b)) {
		if i >= len(a) || i >= len(b) || a[i] != b[i] {
			return i
		}
	}
	return -1
}

// around are what a row has at a place, and beside it.
func around[T any](l []T, place int) []T {
	return l[min(len(l), max(0, place-2)):min(len(l), place+3)]
}

// plays holds what a play tells against what has to be, a run each tick; and its runs are joined.
func plays(t *testing.T, nodes, ticks int, acts []bus.Act, runs []api.Run, events []api.Event) {
	t.Helper()
	got, told, e := bus.Play(nodes, ticks, acts...)
	if e != api.OK {
		t.Fatalf("Play(%d, %d, %+v): %v", nodes, ticks, acts, e)
	}
	if i := differ(byTicks(got), runs); i >= 0 {
		t.Errorf("Play(%d, %d, %+v): at %d %+v, not %+v", nodes, ticks, acts, i, around(byTicks(got), i), around(runs, i))
	}
	if i := differ(told, events); i >= 0 {
		t.Errorf("Play(%d, %d, %+v): the event %d of %+v, not of %+v", nodes, ticks, acts, i, around(told, i), around(events, i))
	}
	for i, r := range got {
		if r.N < 1 || i > 0 && r.Bus == got[i-1].Bus && r.Drive == got[i-1].Drive {
			t.Errorf("Play(%d, %d, %+v): the run %d of %+v", nodes, ticks, acts, i, around(got, i))
		}
	}
}

// arbitration are the levels of arbitration of a frame.
func arbitration(f api.Frame) string {
	remote := 0
	if f.Rtr {
		remote = 1
	}
	if f.Ext {
		return fmt.Sprintf("%011b11%018b%d", f.ID/262144, f.ID%262144, remote)
	}
	return fmt.Sprintf("%011b%d0", f.ID, remote)
}

// inOrder are frames as they win, those alike as they came.
func inOrder(l []api.Frame) []api.Frame {
	return slices.SortedStableFunc(slices.Values(l), func(a, b api.Frame) int {
		return strings.Compare(arbitration(a), arbitration(b))
	})
}

// onBus are a frame's levels on the bus.
func onBus(t *testing.T, f api.Frame, ack bool) string {
	t.Helper()
	l, e := codec.Encode(f, ack)
	if e != api.OK {
		t.Fatalf("Encode(%+v): %v", f, e)
	}
	text := ""
	for _, level := range l {
		text += strconv.Itoa(level)
	}
	return text
}

// sending is a node that sends a frame, or begins to.
type sending struct {
	node   int
	frame  api.Frame
	levels string // that it drives
}

// delivery is what a bus of joined nodes does, the ticks and the events, one frame behind the other.
type delivery struct {
	nodes  int
	runs   []api.Run
	events []api.Event
}

// begin are those that begin to send: each node that has a frame its first one.
func begin(t *testing.T, queues [][]api.Frame) []sending {
	t.Helper()
	var l []sending
	for node, queue := range queues {
		if len(queue) > 0 {
			l = append(l, sending{node, queue[0], onBus(t, queue[0], false)})
		}
	}
	return l
}

// quiet is so many ticks in which nobody drives 0.
func (d *delivery) quiet(ticks int) {
	for range ticks {
		d.runs = append(d.runs, api.Run{N: 1, Bus: 1, Drive: nobody})
	}
}

// one is how one of those that begin delivers its frame, while the others lose; who that is is told.
func (d *delivery) one(l []sending) int {
	first := slices.MinFunc(l, func(a, b sending) int { return strings.Compare(arbitration(a.frame), arbitration(b.frame)) })
	for i := range first.levels {
		row := []byte(strings.Repeat("1", 32))
		for _, s := range l {
			row[s.node] = s.levels[i]
		}
		if slot := len(first.levels) - 9; i == slot {
			for node := range d.nodes {
				if node != first.node {
					row[node] = '0'
				}
			}
		}
		r := runOf(string(row))
		d.lose(&l, i, r.Bus)
		d.end(first, len(first.levels)-i)
		d.runs = append(d.runs, r)
	}
	return first.node
}

// lose has those drop out that drive 1 at a place, as the bus is 0.
func (d *delivery) lose(l *[]sending, place, level int) {
	*l = slices.DeleteFunc(*l, func(s sending) bool {
		lost := s.levels[place] == '1' && level == 0 && place < len(s.levels)-9
		if lost {
			d.events = append(d.events, api.Event{Tick: len(d.runs), Node: s.node, Kind: api.Lost})
		}
		return lost
	})
}

// end is what is told as so many levels are left, with the one that is on.
func (d *delivery) end(s sending, left int) {
	for node := range d.nodes {
		x := api.Event{Tick: len(d.runs), Node: node, Frame: s.frame}
		switch {
		case left == 2 && node != s.node:
			x.Kind = api.Received
		case left == 1 && node == s.node:
			x.Kind = api.Sent
		default:
			continue
		}
		d.events = append(d.events, x)
	}
}

// deliver is what new nodes do that have frames as soon as they have joined, and how many ticks they need.
func deliver(t *testing.T, queues [][]api.Frame) (delivery, int) {
	t.Helper()
	d := delivery{nodes: len(queues)}
	d.quiet(11)
	waits := make([][]api.Frame, len(queues))
	for node, queue := range queues {
		waits[node] = inOrder(queue)
	}
	for l := begin(t, waits); len(l) > 0; l = begin(t, waits) {
		node := d.one(l)
		waits[node] = waits[node][1:]
		d.quiet(3)
	}
	return d, len(d.runs)
}
