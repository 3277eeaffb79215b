package tap_test

import (
	"fmt"
	"slices"
	"testing"

	"magneto/api"
	"magneto/tap"
)

// lists are all of so many runs out of some.
func lists(some []api.Run, many int) [][]api.Run {
	if many == 0 {
		return [][]api.Run{nil}
	}
	var all [][]api.Run
	for _, l := range lists(some, many-1) {
		for _, r := range some {
			all = append(all, append(slices.Clone(l), r))
		}
	}
	return all
}

// kinds are runs of each N with each bus and drive.
func kinds(of []api.Run, ns ...int) []api.Run {
	var l []api.Run
	for _, r := range of {
		for _, n := range ns {
			r.N = n
			l = append(l, r)
		}
	}
	return l
}

// All rows of few runs, right and wrong.
func TestAllShortRows(t *testing.T) {
	right := kinds(runs(quiet(1), loud(1, 0), loud(1, 31)), 1, 2)
	for many := range 5 {
		for _, l := range lists(right, many) {
			holdsAll(t, l)
		}
	}
	mixed := kinds(runs(quiet(1), loud(1, 0), api.Run{}, api.Run{Bus: 1, Drive: driving(0)}, api.Run{Drive: nobody}, api.Run{Bus: 2, Drive: nobody}), -1, 0, 1, 2)
	for many := range 4 {
		for _, l := range lists(mixed, many) {
			holdsAll(t, l)
		}
	}
}

// chance is numbers that hang on the first one alone.
type chance uint32

// of is a number from 0 to below n.
func (c *chance) of(n int) int {
	*c = *c*1664525 + 1013904223
	return int(uint64(*c) * uint64(n) >> 32)
}

// run is a run of few ticks, that is right.
func (c *chance) run(most int) api.Run {
	n := 1 + c.of(most)
	switch c.of(3) {
	case 0:
		return quiet(n)
	case 1:
		return loud(n, c.of(3))
	}
	return loud(n, c.of(32), c.of(32))
}

// spoilt is a run that may be wrong.
func (c *chance) spoilt(r api.Run) api.Run {
	switch c.of(4) {
	case 0:
		r.N = -c.of(3)
	case 1:
		r.Bus = c.of(4) - 1
	case 2:
		r.Drive = nobody
	case 3:
		r.Drive = 0
	}
	return r
}

func TestMixedRows(t *testing.T) {
	for seed := range 300 {
		c := chance(seed*7919 + 5)
		var l []api.Run
		for range c.of(20) {
			l = append(l, c.run(1+c.of(6)))
		}
		holdsAll(t, l)
		if len(l) > 0 {
			at := c.of(len(l))
			l[at] = c.spoilt(l[at])
			holdsAll(t, l)
		}
	}
}

// P12.4

// same tells whether runs have the same ticks, and the same at each.
func same(t *testing.T, a, b []api.Run) bool {
	t.Helper()
	n, e := tap.Ticks(a)
	if m, f := tap.Ticks(b); n != m || e != api.OK || f != api.OK {
		return false
	}
	for tick, r := range tap.Each(a) {
		if other, _ := tap.At(b, tick); other != r {
			return false
		}
	}
	return true
}

// follows holds runs that are right against what follows.
func follows(t *testing.T, l []api.Run) {
	t.Helper()
	joined := tap.Join(l)
	if !same(t, l, joined) {
		t.Errorf("Join(%v) = %v has not the same at each tick", l, joined)
	}
	for i := 1; i < len(joined); i++ {
		if joined[i].Bus == joined[i-1].Bus && joined[i].Drive == joined[i-1].Drive {
			t.Errorf("Join(%v) = %v has two alike side by side", l, joined)
		}
	}
	if again := tap.Join(joined); !slices.Equal(again, joined) {
		t.Errorf("Join(%v) = %v", joined, again)
	}
	n, _ := tap.Ticks(l)
	for tick := range n + 1 {
		ahead, e := tap.Cut(l, 0, tick)
		behind, f := tap.Cut(l, tick, n)
		if got := tap.Join(append(ahead, behind...)); !slices.Equal(got, joined) || e != api.OK || f != api.OK {
			t.Errorf("%v, cut at %d, and joined again: %v", l, tick, got)
		}
	}
	wired(t, l)
}

// wired holds the bus against what nodes drive: it is 0 at a tick just if one of them is.
func wired(t *testing.T, l []api.Run) {
	t.Helper()
	levels, _ := tap.Bus(l)
	want := slices.Repeat([]int{1}, len(levels))
	for node := range 32 {
		drives, e := tap.Node(l, node)
		if len(drives) != len(levels) || e != api.OK {
			t.Fatalf("Node(%v, %d) = %v, %v", l, node, drives, e)
		}
		for tick := range drives {
			want[tick] = min(want[tick], drives[tick])
		}
	}
	if !slices.Equal(levels, want) {
		t.Errorf("Bus(%v) = %v, not %v", l, levels, want)
	}
}

func TestFollows(t *testing.T) {
	for many := range 4 {
		for _, l := range lists(kinds(runs(quiet(1), loud(1, 0), loud(1, 31)), 1, 3), many) {
			follows(t, l)
		}
	}
	for seed := range 200 {
		c := chance(seed*104729 + 1)
		var l []api.Run
		for range c.of(30) {
			l = append(l, c.run(4))
		}
		follows(t, l)
	}
}

// Joined runs are joined already, right or not.
func TestJoinOfJoined(t *testing.T) {
	for seed := range 500 {
		c := chance(seed*31 + 9)
		var l []api.Run
		for range c.of(12) {
			l = append(l, c.spoilt(c.run(2)))
		}
		joined := tap.Join(l)
		if again := tap.Join(joined); !slices.Equal(again, joined) {
			t.Errorf("Join(%v) = %v", joined, again)
		}
	}
}

// R2, R3

// mark is what stands behind a list's length.
var mark = api.Run{N: 77, Bus: 77, Drive: 77}

// roomy are runs with marks behind their length, and the whole of their memory.
func roomy(l []api.Run) ([]api.Run, []api.Run) {
	whole := append(slices.Clone(l), mark, mark, mark, mark)
	return whole[:len(l)], whole
}

// calls are calls of runs, and what they answer as a text.
var calls = map[string]func(l []api.Run) string{
	"Check": func(l []api.Run) string { return fmt.Sprint(tap.Check(l)) },
	"Join":  func(l []api.Run) string { return fmt.Sprint(tap.Join(l)) },
	"Ticks": func(l []api.Run) string { return fmt.Sprint(tap.Ticks(l)) },
	"At":    func(l []api.Run) string { return fmt.Sprint(tap.At(l, 2)) },
	"Each":  func(l []api.Run) string { return fmt.Sprint(walked(l, 6)) },
	"Cut":   func(l []api.Run) string { return fmt.Sprint(tap.Cut(l, 1, 4)) },
	"Bus":   func(l []api.Run) string { return fmt.Sprint(tap.Bus(l)) },
	"Node":  func(l []api.Run) string { return fmt.Sprint(tap.Node(l, 0)) },
}

// someRows are rows of runs that are right, wrong, and too long.
func someRows() [][]api.Run {
	return [][]api.Run{{}, example(), {quiet(2), quiet(2), loud(1, 0), loud(1, 0)}, {quiet(2), loud(0, 0), quiet(2)}, {quiet(2), {N: 1, Bus: 1}, quiet(-1), quiet(3)}, {quiet(1 << 30), quiet(1)}, {quiet(1<<20 + 1)}, {quiet(1 << 62), quiet(1)}}
}

// What is handed in is not turned, nor is what stands behind its length; and what is answered hangs on nothing else.
func TestHandedIn(t *testing.T) {
	for _, l := range someRows() {
		for name, call := range calls {
			own, whole := roomy(l)
			ahead := slices.Clone(whole)
			want := call(slices.Clone(l))
			for range 2 {
				if got := call(own); got != want {
					t.Errorf("%s(%v) = %s, not %s", name, l, got, want)
				}
			}
			if !slices.Equal(whole, ahead) {
				t.Errorf("%s(%v) turns what is handed in, or behind it: %v", name, l, whole)
			}
		}
	}
}

// spoil writes over a list, and all that stands behind its length.
func spoil[T any](l []T, with T) {
	l = l[:cap(l)]
	for i := range l {
		l[i] = with
	}
}

// What is told is the caller's own: it shares nothing with what was handed in, nor with other answers.
func TestAnswersAreOwn(t *testing.T) {
	for _, l := range [][]api.Run{{quiet(5)}, {quiet(3), loud(2, 0)}, {quiet(1), quiet(2), loud(1, 0), loud(1, 0)}, {quiet(1), loud(1, 0), quiet(1), loud(1, 0), quiet(1)}} {
		own, whole := roomy(l)
		ahead := slices.Clone(whole)
		joined := ownRuns(t, "Join", func() []api.Run { return tap.Join(own) })
		for _, span := range [][2]int{{0, 5}, {0, 4}, {1, 5}, {1, 4}, {0, 1}, {4, 5}, {2, 2}} {
			ownRuns(t, "Cut", func() []api.Run { cut, _ := tap.Cut(own, span[0], span[1]); return cut })
		}
		ownLevels(t, "Bus", func() []int { levels, _ := tap.Bus(own); return levels })
		ownLevels(t, "Node", func() []int { levels, _ := tap.Node(own, 0); return levels })
		if !slices.Equal(whole, ahead) {
			t.Errorf("an answer shares memory with %v", l)
		}
		spoil(own[:len(own):len(own)], mark)
		if !slices.Equal(joined, together(oneByOne(l))) {
			t.Errorf("Join keeps what was handed in: %v", joined)
		}
	}
}

// ownRuns holds that runs, told twice, share nothing; it answers them, told once more.
func ownRuns(t *testing.T, call string, ask func() []api.Run) []api.Run {
	t.Helper()
	one, other := ask(), ask()
	want := slices.Clone(other)
	spoil(one, mark)
	if third := ask(); !slices.Equal(other, want) || !slices.Equal(third, want) {
		t.Errorf("%s shares its answers: %v, %v, not %v", call, other, third, want)
	}
	return ask()
}

// ownLevels holds that levels, told twice, share nothing.
func ownLevels(t *testing.T, call string, ask func() []int) {
	t.Helper()
	one, other := ask(), ask()
	want := slices.Clone(other)
	spoil(one, 77)
	if third := ask(); !slices.Equal(other, want) || !slices.Equal(third, want) {
		t.Errorf("%s shares its answers: %v, %v, not %v", call, other, third, want)
	}
}

// What Each was handed is not kept: the ticks are those of the call, whatever is written into it since.
func TestEachKeepsNothing(t *testing.T) {
	l := example()
	each := tap.Each(l)
	spoil(l, quiet(9))
	var got []api.Run
	for tick, r := range each {
		got = append(got, r)
		if tick == 1 {
			spoil(l, loud(1, 9))
		}
	}
	if !slices.Equal(got, oneByOne(example())) {
		t.Error("Each of runs that were written over:", got)
	}
	wrong := runs(quiet(0))
	none := tap.Each(wrong)
	wrong[0].N = 1
	for tick := range none {
		t.Error("Each of what was wrong as it was called goes through", tick)
	}
	soon := runs(quiet(1))
	one, count := tap.Each(soon), 0
	soon[0] = api.Run{}
	for range one {
		count++
	}
	if count != 1 {
		t.Error("Each of what was right as it was called goes through", count)
	}
}
