package ctl_test

import (
	"fmt"
	"slices"
	"strings"
	"testing"

	"magneto/api"
	"magneto/count"
	"magneto/ctl"
)

// pair is a node, and the same on paper.
type pair struct {
	n *ctl.Node
	p *paper
}

func newPair() pair { return pair{ctl.New(), &paper{}} }

// twin is a pair of its own, the same.
func (x pair) twin() pair { return pair{x.n.Clone(), x.p.twin()} }

// put puts a frame in, that may be.
func (x pair) put(f api.Frame) string {
	if got, want := x.n.Put(f), x.p.put(f); got != want {
		return fmt.Sprintf("Put(%+v) = %v, not %v", f, got, want)
	}
	return x.differs()
}

// differs tells what of the node is not as on paper.
func (x pair) differs() string {
	if got, want := x.n.Look(), x.p.look(); got != want {
		return fmt.Sprintf("Look() = %+v, not %+v", got, want)
	}
	if got, want := x.n.Drive(), int(x.p.drive()-'0'); got != want {
		return fmt.Sprintf("Drive() = %d, not %d", got, want)
	}
	return ""
}

// step has both see a level, and tells what is not as on paper.
func (x pair) step(level byte) string {
	was := x.p.look()
	got, e := x.n.Step(int(level - '0'))
	want := x.p.step(level)
	if e != api.OK || !slices.Equal(got, want) {
		return fmt.Sprintf("Step(%c) of %+v = %+v, %v, not %+v", level, was, got, e, want)
	}
	if differs := x.differs(); differs != "" {
		return fmt.Sprintf("behind Step(%c) of %+v: %s", level, was, differs)
	}
	return ""
}

// steps has both see levels.
func (x pair) steps(t *testing.T, text string) {
	t.Helper()
	for i := range text {
		if wrong := x.step(text[i]); wrong != "" {
			t.Fatalf("at %d of %s: %s", i, text, wrong)
		}
	}
}

// all has both see all rows of so many levels, each from where the pair is.
func (x pair) all(t *testing.T, depth int) {
	t.Helper()
	if depth == 0 {
		return
	}
	for _, level := range "01" {
		y := x.twin()
		if wrong := y.step(byte(level)); wrong != "" {
			t.Fatalf("%d levels ahead of the end: %s", depth, wrong)
		}
		y.all(t, depth-1)
	}
}

// story is what a pair goes through: frames that are put in at ticks, and what the others drive; the bus is 0, if the node drives that.
type story struct {
	name   string
	frames map[int][]api.Frame
	others string
}

// heard is what the others drive, as they acknowledge a frame's levels.
func heard(f api.Frame) string {
	row := []byte(strings.Repeat("1", len(onBus(f, true))))
	row[len(row)-9] = '0'
	return string(row)
}

const (
	joins = "11111111111"
	rest  = "111"
)

// stories go through all modes, as sender and not, active and passive.
func stories() []story {
	a, b, c := short(0x123, 0xA5), long(0x1ABCDEF, 0, 255), remote(short(0x7FF), 3)
	unheard := strings.Repeat("1", len(onBus(short(5), false))-8) // up to the slot
	broken := "000000" + "000000" + "11111111" + rest
	wronged := "000000" + "000000" + "0" + "11111111" + rest
	return []story{
		{"receives", nil, joins + onBus(a, true) + rest + onBus(b, true) + rest + onBus(c, true) + rest},
		{"receives what nobody else acknowledges", nil, joins + onBus(b, false) + "11" + onBus(a, false) + rest},
		{"sends", map[int][]api.Frame{11: {a}}, joins + heard(a) + rest + rest},
		{"sends two, and one that it gets on the way", map[int][]api.Frame{11: {b, c}, 40: {a}}, joins + heard(b) + rest + heard(a) + rest + heard(c) + rest},
		{"loses, and sends then", map[int][]api.Frame{11: {short(5)}}, joins + onBus(short(4), true) + rest + heard(short(5)) + rest},
		{"nobody hears it", map[int][]api.Frame{11: {short(5)}}, joins + unheard + strings.Repeat("1", 60)},
		{"passive, and nobody hears it", map[int][]api.Frame{11: {short(5)}}, joins + unheard + "111111" + strings.Repeat("0", 128) +
			"11111111" + rest + "11111111" + unheard + "111111" + "11111111" + rest + "11111111" + unheard + "1101" + "000000" +
			"11111111" + rest + "1111" + onBus(a, true) + rest + heard(short(5)) + rest},
		{"alone, till it goes off", map[int][]api.Frame{11: {short(5)}}, joins + "1" + strings.Repeat("0", 350)},
		{"nothing is right", nil, joins + strings.Repeat(broken, 3) + strings.Repeat(wronged, 14) + strings.Repeat(broken, 3) + onBus(a, true) + rest},
		{"overloads", nil, joins + onBus(a, true) + "0" + "000000" + "1111111" + "0" + "000000" + "0000000001" + "1111111" + rest},
	}
}

// play has a pair go through a story; at is told each tick, ahead of it.
func (s story) play(t *testing.T, at func(tick int, x pair)) {
	t.Helper()
	x := newPair()
	for i := range s.others {
		for _, f := range s.frames[i] {
			if wrong := x.put(f); wrong != "" {
				t.Fatalf("%s: tick %d: %s", s.name, i, wrong)
			}
		}
		at(i, x)
		if wrong := x.step(min(s.others[i], x.p.drive())); wrong != "" {
			t.Fatalf("%s: tick %d: %s", s.name, i, wrong)
		}
	}
}

// TestAllRows goes, from each tick of each story, through all rows of the levels to come.
func TestAllRows(t *testing.T) {
	depth := 7
	if testing.Short() {
		depth = 3
	}
	for _, s := range stories() {
		s.play(t, func(_ int, x pair) { x.all(t, depth) })
	}
}

// TestDeepRows goes farther, from some ticks on.
func TestDeepRows(t *testing.T) {
	for _, s := range stories() {
		s.play(t, func(tick int, x pair) {
			if tick%41 == 17 {
				x.all(t, 12)
			}
		})
	}
}

// TestOneTurned goes through each story, as one level is turned, at each tick, and then through the frame that comes behind.
func TestOneTurned(t *testing.T) {
	for _, s := range stories() {
		s.play(t, func(tick int, x pair) {
			y := x.twin()
			for i := tick; i < min(len(s.others), tick+90); i++ {
				level := min(s.others[i], y.p.drive())
				if i == tick {
					level ^= 1
				}
				if wrong := y.step(level); wrong != "" {
					t.Fatalf("%s: turned at %d, tick %d: %s", s.name, tick, i, wrong)
				}
			}
		})
	}
}

// chance is numbers that hang on the first one alone.
type chance uint32

// of is a number below another one.
func (c *chance) of(n int) int {
	*c = *c*1664525 + 1013904223
	return int(*c>>8) % n
}

// frame is a frame that may be.
func (c *chance) frame() api.Frame {
	f := short(c.of(2048))
	if c.of(2) == 0 {
		f = long(c.of(1<<15)<<14 | c.of(1<<14))
	}
	if c.of(4) == 0 {
		f.ID &= 7
	}
	f.Len = c.of(9)
	if f.Rtr = c.of(4) == 0; f.Rtr {
		return f
	}
	for i := range f.Len {
		f.Data[i] = [4]byte{0, 255, byte(c.of(256)), byte(c.of(256))}[c.of(4)]
	}
	return f
}

// surround is what the others drive for some time.
func (c *chance) surround(off bool) string {
	if off && c.of(3) == 0 {
		return strings.Repeat("1", 1500) // else hardly one would come back
	}
	switch c.of(8) {
	case 0, 1, 2:
		return joins + onBus(c.frame(), c.of(2) == 0) + rest[c.of(3):]
	case 3:
		return strings.Repeat("1", 20+c.of(200))
	case 4:
		return strings.Repeat("0", c.of(30))
	case 5:
		row := make([]byte, c.of(60))
		for i := range row {
			row[i] = '0' + byte(c.of(2))
		}
		return string(row)
	case 6:
		return strings.Repeat(rest[c.of(3):]+"000000", c.of(6))
	}
	return "11111111111" + onBus(c.frame(), true) + rest
}

// wander has a pair go through whatever comes; at is told each tick, behind it.
func (c *chance) wander(t *testing.T, ticks int, at func(x pair)) {
	t.Helper()
	x, others := newPair(), ""
	hears, turns := true, 10+c.of(400)
	for tick := range ticks {
		if others == "" {
			others = c.surround(x.p.off)
			hears = c.of(4) > 0
			if c.of(4) == 0 {
				if wrong := x.put(c.frame()); wrong != "" {
					t.Fatal(wrong)
				}
			}
			continue
		}
		level := min(others[0], x.p.drive())
		if s := read(x.p.bus); x.p.mode == ctl.InFrame && x.p.tx && hears && s.place == slot {
			level = '0'
		}
		if !x.p.off && c.of(turns) == 0 {
			level ^= 1
		}
		others = others[1:]
		if wrong := x.step(level); wrong != "" {
			t.Fatalf("tick %d: %s", tick, wrong)
		}
		at(x)
	}
}

// TestWander holds nodes against paper through long walks, and sees that these come everywhere.
func TestWander(t *testing.T) {
	modes, kinds := map[[2]int]bool{}, map[int]bool{}
	for seed := range 60 {
		c := chance(seed * 7919)
		c.wander(t, 3000, func(x pair) {
			modes[[2]int{x.p.mode, count.State(x.p.look().Counts)}] = true
			for _, e := range x.p.told {
				kinds[e.Kind] = true
			}
		})
	}
	for _, mode := range []int{ctl.Idle, ctl.InFrame, ctl.ErrorFlag, ctl.PassiveFlag, ctl.OverFlag, ctl.Waiting, ctl.Closing, ctl.Pause} {
		for _, state := range []int{api.Active, api.Passive} {
			if mode != ctl.PassiveFlag && !modes[[2]int{mode, state}] {
				t.Errorf("no walk came to the mode %d in the state %d", mode, state)
			}
		}
	}
	if !modes[[2]int{ctl.PassiveFlag, api.Passive}] || !modes[[2]int{ctl.Suspend, api.Passive}] || !modes[[2]int{ctl.BusOff, api.Off}] {
		t.Error("no walk came to PassiveFlag, Suspend, or BusOff")
	}
	for kind := api.Sent; kind <= api.Back; kind++ {
		if !kinds[kind] {
			t.Errorf("no walk has an event of the kind %d", kind)
		}
	}
}

// P10.5

// TestBounds has counts within their bounds, and one that is off drive nothing, whatever comes.
func TestBounds(t *testing.T) {
	for seed := range 20 {
		c := chance(seed*104729 + 5)
		c.wander(t, 3000, func(x pair) {
			l := x.n.Look()
			if e := count.Check(l.Counts); e != api.OK {
				t.Fatalf("counts %+v: %v", l.Counts, e)
			}
			if (l.Mode == ctl.BusOff) != l.Counts.Off || l.Counts.Off && x.n.Drive() != api.Recessive {
				t.Fatalf("%+v drives %d", l, x.n.Drive())
			}
		})
	}
}

// TestSixtyRecessive has nodes without frames become idle, or be off, behind 60 levels 1, wherever they are.
func TestSixtyRecessive(t *testing.T) {
	held := 0
	calm := func(x pair) {
		if x.n.Look().Queued > 0 {
			return
		}
		held++
		n := x.n.Clone()
		for range 60 {
			n.Step(api.Recessive)
		}
		if mode := n.Look().Mode; mode != ctl.Idle && mode != ctl.BusOff {
			t.Fatalf("behind 60 levels 1 %+v is %+v", x.n.Look(), n.Look())
		}
	}
	for _, s := range stories() {
		s.play(t, func(_ int, x pair) { calm(x) })
	}
	for seed := range 30 {
		c := chance(seed*31 + 11)
		c.wander(t, 2000, calm)
	}
	if held < 3000 {
		t.Errorf("only %d nodes had no frames", held)
	}
}
