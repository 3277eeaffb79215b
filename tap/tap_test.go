package tap_test

import (
	"fmt"
	"math"
	"slices"
	"testing"

	"magneto/api"
	"magneto/tap"
)

// The least and the greatest number.
const (
	least    = math.MinInt
	greatest = math.MaxInt
)

// runs are a list of them.
func runs(l ...api.Run) []api.Run { return l }

// numbers are a list of them.
func numbers(l ...int) []int { return l }

// example is the chapter's.
func example() []api.Run { return runs(quiet(2), loud(3, 0)) }

func TestExample(t *testing.T) {
	l := example()
	if n, e := tap.Ticks(l); n != 5 || e != api.OK {
		t.Error("Ticks", n, e)
	}
	if b, e := tap.Bus(l); !slices.Equal(b, numbers(1, 1, 0, 0, 0)) || e != api.OK {
		t.Error("Bus", b, e)
	}
	if b, e := tap.Node(l, 0); !slices.Equal(b, numbers(1, 1, 0, 0, 0)) || e != api.OK {
		t.Error("Node 0", b, e)
	}
	if cut, e := tap.Cut(l, 1, 3); !slices.Equal(cut, runs(quiet(1), loud(1, 0))) || e != api.OK {
		t.Error("Cut", cut, e)
	}
	if r, e := tap.At(l, 5); r != (api.Run{}) || e != api.ErrRange {
		t.Error("At 5", r, e)
	}
	holdsAll(t, l)
}

// wrongRuns are runs each of which is wrong, by one thing alone where that may be.
func wrongRuns() []api.Run {
	var l []api.Run
	for _, n := range []int{least, least + 1, math.MinInt32, -1 << 62, -1 << 32, -1 << 30, -2, -1, 0, 1<<30 + 1, 1<<30 + 2, 1 << 31, 1<<31 + 1, 1 << 32, 1<<32 + 1, 1 << 62, greatest - 1, greatest} {
		l = append(l, quiet(n), loud(n, 0), loud(n, 31))
	}
	for _, bus := range []int{least, math.MinInt32, -1 << 32, -2, -1, 2, 3, 255, 256, 257, 1 << 31, 1 << 32, 1<<32 + 1, greatest - 1, greatest} {
		l = append(l, api.Run{N: 1, Bus: bus, Drive: nobody}, api.Run{N: 1, Bus: bus}, api.Run{N: 1 << 30, Bus: bus, Drive: driving(5)})
	}
	for node := range 32 {
		l = append(l, api.Run{N: 1, Bus: 1, Drive: driving(node)}, api.Run{N: 1, Bus: 1, Drive: nobody - driving(node)})
	}
	return append(l, api.Run{N: 1, Bus: 0, Drive: nobody}, api.Run{N: 1, Bus: 1, Drive: 0}, api.Run{N: 1, Bus: 1, Drive: 1 << 31}, api.Run{N: 1 << 30, Bus: 1, Drive: 0x7fffffff}, api.Run{N: 1 << 30, Bus: 0, Drive: nobody}, api.Run{Bus: 1}, api.Run{Drive: nobody}, api.Run{})
}

// drives are what nodes drive, at the edges and between, and the bus that it makes.
func drives() []api.Run {
	l := runs(quiet(1), api.Run{N: 1}, api.Run{N: 1, Drive: 1}, api.Run{N: 1, Drive: 2}, api.Run{N: 1, Drive: 0x80000000}, api.Run{N: 1, Drive: 0x7fffffff}, api.Run{N: 1, Drive: 0xfffffffe}, api.Run{N: 1, Drive: 0xffff}, api.Run{N: 1, Drive: 0xffff0000}, api.Run{N: 1, Drive: 0x55555555})
	for node := range 32 {
		l = append(l, loud(1, node))
	}
	return l
}

// P12.1

func TestNoRuns(t *testing.T) {
	for _, l := range [][]api.Run{nil, {}, make([]api.Run, 0, 4)} {
		holdsAll(t, l)
		if n, e := tap.Ticks(l); n != 0 || e != api.OK || tap.Check(l) != api.OK {
			t.Error("Ticks", n, e)
		}
		for _, tick := range []int{least, -1, 0, 1, greatest} {
			if r, e := tap.At(l, tick); r != (api.Run{}) || e != api.ErrRange {
				t.Error("At", tick, r, e)
			}
		}
	}
}

func TestRightRuns(t *testing.T) {
	for _, r := range drives() {
		for _, n := range []int{1, 2, 3} {
			r.N = n
			holdsAll(t, runs(r))
		}
		for _, n := range []int{1, 2, 1 << 16, 1<<30 - 1, 1 << 30} {
			r.N = n
			if e := tap.Check(runs(r)); e != api.OK {
				t.Errorf("Check(%v) = %v", r, e)
			}
			if ticks, e := tap.Ticks(runs(r)); ticks != n || e != api.OK {
				t.Errorf("Ticks(%v) = %v, %v", r, ticks, e)
			}
		}
	}
}

func TestWrongRuns(t *testing.T) {
	for _, r := range wrongRuns() {
		refusesAll(t, runs(r), api.ErrRange)
		for _, l := range [][]api.Run{{quiet(1), loud(2, 0)}, {quiet(1 << 30)}, {quiet(1 << 30), loud(1, 3)}, {loud(1<<30, 1), quiet(1 << 30), loud(1<<30, 2)}} {
			for at := range len(l) + 1 {
				refusesAll(t, slices.Insert(slices.Clone(l), at, r), api.ErrRange)
			}
		}
		for _, other := range wrongRuns()[:12] {
			refusesAll(t, runs(r, other), api.ErrRange)
			refusesAll(t, runs(quiet(1), r, loud(1<<30, 4), other), api.ErrRange)
		}
	}
}

// tooMany are runs that are right, but for all of them together.
func tooMany() [][]api.Run {
	l := [][]api.Run{
		{quiet(1 << 30), quiet(1)}, {quiet(1), quiet(1 << 30)}, {quiet(1 << 30), loud(1, 0)}, {loud(1<<30, 7), quiet(1)},
		{quiet(1 << 29), loud(1<<29, 0), loud(1, 1)}, {quiet(1<<30 - 1), loud(1, 0), quiet(1)}, {quiet(1<<30 - 1), loud(2, 0)},
		{quiet(1 << 30), quiet(1 << 30)}, slices.Repeat(runs(quiet(1<<30)), 4), slices.Repeat(runs(loud(1<<30, 31)), 5),
	}
	return append(l, slices.Repeat(runs(quiet(1<<20), loud(1<<20, 1)), 513), slices.Repeat(runs(quiet(1<<30)), 1<<12))
}

func TestTicksTogether(t *testing.T) {
	for _, l := range tooMany() {
		refusesLong(t, l)
	}
	for _, l := range [][]api.Run{
		{quiet(1 << 30)}, {loud(1<<30, 31)}, {quiet(1<<30 - 1), quiet(1)}, {quiet(1), loud(1<<30-1, 0)}, {quiet(1 << 29), loud(1<<29, 0)},
		{quiet(1), loud(1<<30-2, 4), quiet(1)}, slices.Repeat(runs(quiet(1<<20), loud(1<<20, 1)), 512), slices.Repeat(runs(quiet(1<<10)), 1<<20),
	} {
		if n, e := tap.Ticks(l); n != 1<<30 || e != api.OK || tap.Check(l) != api.OK {
			t.Errorf("Ticks of %d runs = %v, %v", len(l), n, e)
		}
		for _, tick := range []int{least, -1, 1 << 30, 1<<30 + 1, greatest} {
			if r, e := tap.At(l, tick); r != (api.Run{}) || e != api.ErrRange {
				t.Errorf("At(%d) of %d runs = %v, %v", tick, len(l), r, e)
			}
		}
		first, last := l[0], l[len(l)-1]
		first.N, last.N = 1, 1
		if r, e := tap.At(l, 0); r != first || e != api.OK {
			t.Error("At the first one", r, e)
		}
		if r, e := tap.At(l, 1<<30-1); r != last || e != api.OK {
			t.Error("At the last one", r, e)
		}
	}
}

// refusesLong holds calls of runs that have too many ticks against errors; of many runs not each call, as their texts are long.
func refusesLong(t *testing.T, l []api.Run) {
	t.Helper()
	if len(l) < 20 {
		refusesAll(t, l, api.ErrLong)
		return
	}
	if n, e := tap.Ticks(l); n != 0 || e != api.ErrLong || tap.Check(l) != api.ErrLong {
		t.Errorf("Ticks of %d runs = %v, %v", len(l), n, e)
	}
	for range tap.Each(l) {
		t.Fatal("Each goes through too many ticks")
	}
}

func TestAt(t *testing.T) {
	l := runs(quiet(2), loud(1, 0), loud(1, 0), loud(4, 0, 31), quiet(1<<20), loud(1, 9), quiet(1<<30-(1<<20)-9))
	for _, x := range []struct {
		tick int
		r    api.Run
		e    api.Errno
	}{
		{0, quiet(1), api.OK}, {1, quiet(1), api.OK}, {2, loud(1, 0), api.OK}, {3, loud(1, 0), api.OK}, {4, loud(1, 0, 31), api.OK}, {7, loud(1, 0, 31), api.OK},
		{8, quiet(1), api.OK}, {7 + 1<<20, quiet(1), api.OK}, {8 + 1<<20, loud(1, 9), api.OK}, {9 + 1<<20, quiet(1), api.OK}, {1<<30 - 1, quiet(1), api.OK},
		{1 << 30, api.Run{}, api.ErrRange}, {-1, api.Run{}, api.ErrRange}, {-2, api.Run{}, api.ErrRange}, {1<<32 + 2, api.Run{}, api.ErrRange}, {-1<<32 + 2, api.Run{}, api.ErrRange},
		{math.MaxInt32, api.Run{}, api.ErrRange}, {math.MinInt32, api.Run{}, api.ErrRange}, {least, api.Run{}, api.ErrRange}, {least + 1, api.Run{}, api.ErrRange}, {greatest, api.Run{}, api.ErrRange},
	} {
		if r, e := tap.At(l, x.tick); r != x.r || e != x.e {
			t.Errorf("At(%d) = %v, %v, not %v, %v", x.tick, r, e, x.r, x.e)
		}
	}
}

// P12.2

func TestJoin(t *testing.T) {
	for i, x := range []struct{ l, want []api.Run }{
		{runs(quiet(1)), runs(quiet(1))},
		{runs(quiet(1), quiet(1)), runs(quiet(2))},
		{runs(quiet(2), quiet(3), quiet(4)), runs(quiet(9))},
		{runs(quiet(2), loud(3, 0), loud(1, 0), api.Run{N: 1}), runs(quiet(2), loud(4, 0), api.Run{N: 1})},
		{runs(quiet(1), loud(1, 0), quiet(1), loud(1, 0)), runs(quiet(1), loud(1, 0), quiet(1), loud(1, 0))},
		{runs(quiet(0)), nil},
		{runs(quiet(-1)), nil},
		{runs(quiet(0), loud(-5, 0), quiet(least)), nil},
		{runs(quiet(1), loud(0, 0), quiet(1)), runs(quiet(2))},
		{runs(quiet(1), loud(-1, 0), quiet(1)), runs(quiet(2))},
		{runs(quiet(5), loud(least, 0), quiet(1)), runs(quiet(6))},
		{runs(quiet(5), quiet(-3), quiet(1)), runs(quiet(6))},
		{runs(quiet(5), quiet(0), quiet(least), loud(1, 0)), runs(quiet(5), loud(1, 0))},
		{runs(loud(0, 0), loud(-7, 0), quiet(1), loud(0, 0), loud(2, 0), loud(-7, 0), loud(1, 0), quiet(0)), runs(quiet(1), loud(3, 0))},
		{runs(quiet(1), loud(0, 0), loud(1, 0), loud(0, 1), loud(1, 1)), runs(quiet(1), loud(1, 0), loud(1, 1))},
		{runs(api.Run{N: 2, Bus: 7}, api.Run{N: 3, Bus: 7}), runs(api.Run{N: 5, Bus: 7})},
		{runs(api.Run{N: 2, Bus: -7, Drive: 5}, api.Run{}, api.Run{N: 3, Bus: -7, Drive: 5}), runs(api.Run{N: 5, Bus: -7, Drive: 5})},
		{runs(api.Run{N: 2, Bus: 1}, api.Run{N: 3, Bus: 1}, api.Run{N: 1}), runs(api.Run{N: 5, Bus: 1}, api.Run{N: 1})},
		{runs(api.Run{N: 2, Drive: nobody}, api.Run{N: 3, Bus: 1, Drive: nobody}, api.Run{N: 4, Drive: nobody}), runs(api.Run{N: 2, Drive: nobody}, quiet(3), api.Run{N: 4, Drive: nobody})},
		{runs(api.Run{N: 1, Bus: least}, api.Run{N: 1, Bus: greatest}, api.Run{N: 1, Bus: 1 << 32}, api.Run{N: 1}), runs(api.Run{N: 1, Bus: least}, api.Run{N: 1, Bus: greatest}, api.Run{N: 1, Bus: 1 << 32}, api.Run{N: 1})},
		{runs(quiet(1<<30+1), quiet(1<<30+1), loud(1<<40, 2)), runs(quiet(2<<30+2), loud(1<<40, 2))},
	} {
		if got := tap.Join(x.l); !slices.Equal(got, x.want) {
			t.Errorf("%d: Join(%v) = %v, not %v", i, x.l, got, x.want)
		}
	}
}

func TestJoinOfUnlike(t *testing.T) {
	for node := range 32 {
		l := runs(loud(2, node), api.Run{N: 3}, loud(1, node), api.Run{N: 3, Drive: nobody}, quiet(4), api.Run{N: 5, Bus: 1, Drive: driving(node)}, loud(6, node))
		if got := tap.Join(l); !slices.Equal(got, l) {
			t.Errorf("Join(%v) = %v", l, got)
		}
	}
}

func TestJoinOfMany(t *testing.T) {
	const most = 1 << 62
	for i, x := range []struct{ l, want []api.Run }{
		{runs(quiet(most)), runs(quiet(most))},
		{runs(quiet(most + 1)), nil},
		{runs(quiet(greatest)), nil},
		{runs(quiet(greatest), loud(1, 0)), nil},
		{runs(quiet(most-1), quiet(1)), runs(quiet(most))},
		{runs(quiet(1), quiet(most-1)), runs(quiet(most))},
		{runs(quiet(most-1), quiet(2)), nil},
		{runs(quiet(most-1), loud(1, 0)), runs(quiet(most-1), loud(1, 0))},
		{runs(quiet(most-1), loud(2, 0)), nil},
		{runs(quiet(most), quiet(1)), nil},
		{runs(quiet(1), quiet(most)), nil},
		{runs(loud(1, 0), quiet(most)), nil},
		{runs(quiet(1), quiet(greatest)), nil},
		{runs(quiet(most), quiet(most)), nil},
		{runs(quiet(most), loud(most, 0)), nil},
		{runs(quiet(greatest), loud(greatest, 0)), nil},
		{runs(quiet(greatest), loud(greatest, 0), quiet(2)), nil},
		{runs(quiet(greatest), loud(greatest, 0), quiet(3), loud(1, 0)), nil},
		{runs(quiet(most), loud(most, 0), quiet(most), loud(most, 0)), nil},
		{runs(quiet(most), loud(most, 0), quiet(most), loud(most, 0), quiet(1)), nil},
		{runs(quiet(most/2), loud(most/2, 0)), runs(quiet(most/2), loud(most/2, 0))},
		{runs(quiet(most/2), loud(most/2, 0), quiet(1)), nil},
		{runs(quiet(most), loud(0, 0), loud(-1, 0), loud(least, 0)), runs(quiet(most))},
		{runs(quiet(most), loud(-1, 0), quiet(1)), nil},
		{runs(loud(least, 0), quiet(most), loud(1, 0)), nil},
		{runs(quiet(most), loud(-most, 0), quiet(most)), nil},
		{runs(api.Run{N: most - 1, Bus: 9}, api.Run{N: 1, Bus: 9}), runs(api.Run{N: most, Bus: 9})},
		{runs(api.Run{N: most - 1, Bus: 9}, api.Run{N: 2, Bus: 9}), nil},
		{slices.Repeat(runs(quiet(1<<60)), 4), runs(quiet(most))},
		{slices.Repeat(runs(quiet(1<<60)), 5), nil},
		{slices.Repeat(runs(quiet(1<<60), loud(1<<60, 0)), 8), nil},
		{slices.Repeat(runs(quiet(1<<50)), 1<<12), runs(quiet(most))},
		{append(slices.Repeat(runs(quiet(1<<50)), 1<<12), loud(1, 0)), nil},
	} {
		if got := tap.Join(x.l); !slices.Equal(got, x.want) {
			t.Errorf("%d: Join of %d runs = %v, not %v", i, len(x.l), got, x.want)
		}
	}
}

func TestCut(t *testing.T) {
	l := runs(quiet(2), loud(3, 0), loud(1, 0), api.Run{N: 1}, loud(2, 0))
	for _, x := range []struct {
		from, to int
		want     []api.Run
		e        api.Errno
	}{
		{0, 9, runs(quiet(2), loud(4, 0), api.Run{N: 1}, loud(2, 0)), api.OK},
		{0, 0, nil, api.OK}, {4, 4, nil, api.OK}, {2, 2, nil, api.OK}, {9, 9, nil, api.OK},
		{0, 1, runs(quiet(1)), api.OK}, {0, 2, runs(quiet(2)), api.OK}, {0, 3, runs(quiet(2), loud(1, 0)), api.OK}, {0, 5, runs(quiet(2), loud(3, 0)), api.OK},
		{1, 2, runs(quiet(1)), api.OK}, {2, 5, runs(loud(3, 0)), api.OK}, {3, 4, runs(loud(1, 0)), api.OK}, {4, 6, runs(loud(2, 0)), api.OK}, {5, 6, runs(loud(1, 0)), api.OK},
		{5, 8, runs(loud(1, 0), api.Run{N: 1}, loud(1, 0)), api.OK}, {6, 9, runs(api.Run{N: 1}, loud(2, 0)), api.OK}, {6, 7, runs(api.Run{N: 1}), api.OK}, {8, 9, runs(loud(1, 0)), api.OK},
		{-1, 4, nil, api.ErrRange}, {-1, -1, nil, api.ErrRange}, {-1, 0, nil, api.ErrRange}, {5, 4, nil, api.ErrRange}, {1, 0, nil, api.ErrRange}, {9, 0, nil, api.ErrRange},
		{0, 10, nil, api.ErrRange}, {9, 10, nil, api.ErrRange}, {10, 10, nil, api.ErrRange}, {10, 9, nil, api.ErrRange}, {11, 12, nil, api.ErrRange}, {-1, 10, nil, api.ErrRange},
		{least, 0, nil, api.ErrRange}, {least, least, nil, api.ErrRange}, {least, greatest, nil, api.ErrRange}, {0, greatest, nil, api.ErrRange}, {greatest, greatest, nil, api.ErrRange},
		{greatest, least, nil, api.ErrRange}, {0, least, nil, api.ErrRange}, {0, 1<<32 + 1, nil, api.ErrRange}, {1 << 32, 1<<32 + 1, nil, api.ErrRange}, {-1 << 32, 1, nil, api.ErrRange},
	} {
		if got, e := tap.Cut(l, x.from, x.to); !slices.Equal(got, x.want) || e != x.e {
			t.Errorf("Cut(%d, %d) = %v, %v, not %v, %v", x.from, x.to, got, e, x.want, x.e)
		}
	}
}

func TestCutOfManyTicks(t *testing.T) {
	const half = 1 << 29
	l := runs(quiet(half), loud(half, 0))
	for _, x := range []struct {
		from, to int
		want     []api.Run
		e        api.Errno
	}{
		{0, 1 << 30, l, api.OK}, {0, half, l[:1], api.OK}, {half, 1 << 30, l[1:], api.OK}, {half - 1, half + 1, runs(quiet(1), loud(1, 0)), api.OK},
		{1, 1<<30 - 1, runs(quiet(half-1), loud(half-1, 0)), api.OK}, {half, half, nil, api.OK}, {1 << 30, 1 << 30, nil, api.OK}, {1<<30 - 1, 1 << 30, runs(loud(1, 0)), api.OK},
		{0, 1<<30 + 1, nil, api.ErrRange}, {1<<30 + 1, 1<<30 + 1, nil, api.ErrRange}, {half + 1, half, nil, api.ErrRange},
	} {
		if got, e := tap.Cut(l, x.from, x.to); !slices.Equal(got, x.want) || e != x.e {
			t.Errorf("Cut(%d, %d) = %v, %v, not %v, %v", x.from, x.to, got, e, x.want, x.e)
		}
	}
	if got, e := tap.Cut(runs(quiet(half), quiet(half)), half-5, half+5); !slices.Equal(got, runs(quiet(10))) || e != api.OK {
		t.Error("Cut of alike ones", got, e)
	}
}

// P12.3

func TestEachWhole(t *testing.T) {
	l := runs(quiet(2), loud(1, 0), loud(2, 0), api.Run{N: 1})
	want := runs(quiet(1), quiet(1), loud(1, 0), loud(1, 0), loud(1, 0), api.Run{N: 1})
	if ticks, got := walked(l, -1); !slices.Equal(ticks, numbers(0, 1, 2, 3, 4, 5)) || !slices.Equal(got, want) {
		t.Error("Each", ticks, got)
	}
	const many = 1<<20 + 1
	ahead := 0
	for tick, r := range tap.Each(runs(quiet(many), loud(1, 3))) {
		if tick != ahead || tick < many && r != quiet(1) || tick == many && r != loud(1, 3) {
			t.Fatal("Each of many", tick, r)
		}
		ahead++
	}
	if ahead != many+1 {
		t.Error("Each of many goes through", ahead)
	}
}

func TestEachTwice(t *testing.T) {
	each := tap.Each(example())
	for range 3 {
		var ticks []int
		for tick, r := range each {
			if want, _ := tap.At(example(), tick); r != want {
				t.Error("Each", tick, r)
			}
			ticks = append(ticks, tick)
		}
		if !slices.Equal(ticks, upTo(5)) {
			t.Error("Each goes through", ticks)
		}
	}
}

func TestEachLeft(t *testing.T) {
	l := runs(quiet(3), loud(2, 0))
	each := tap.Each(l)
	for _, last := range []int{0, 1, 2, 3, 4, 4, 0} {
		calls := 0
		each(func(tick int, r api.Run) bool {
			if want, _ := tap.At(l, tick); tick != calls || r != want {
				t.Error("Each", tick, r)
			}
			calls++
			return tick < last
		})
		if calls != last+1 {
			t.Errorf("Each, left at %d, tells %d ticks", last, calls)
		}
	}
	for tick, r := range tap.Each(runs(loud(1<<30, 6))) {
		if tick > 1000 {
			break
		}
		if r != loud(1, 6) {
			t.Fatal("Each", tick, r)
		}
	}
}

// A walk within a walk of the same ticks is one of its own.
func TestEachWithinEach(t *testing.T) {
	each := tap.Each(example())
	var got []int
	for outer := range each {
		for inner := range each {
			if inner > outer {
				break
			}
			got = append(got, 10*outer+inner)
		}
	}
	if want := numbers(0, 10, 11, 20, 21, 22, 30, 31, 32, 33, 40, 41, 42, 43, 44); !slices.Equal(got, want) {
		t.Error("Each within Each", got)
	}
}

// An iterator is there also where there is nothing to go through.
func TestEachOfNothing(t *testing.T) {
	for _, l := range append([][]api.Run{nil, {}, {{}}, {quiet(0)}, {quiet(1), {N: 1, Bus: 1}}, {quiet(1), loud(-1, 0)}}, tooMany()...) {
		each := tap.Each(l)
		if each == nil {
			t.Fatalf("Each of %d runs is nil", len(l))
		}
		for tick, r := range each {
			t.Fatalf("Each of %d runs goes through %d, %v", len(l), tick, r)
		}
	}
}

func TestLevels(t *testing.T) {
	l := runs(quiet(1), loud(2, 0, 31), loud(1, 1), quiet(1), api.Run{N: 1})
	for node, want := range map[int][]int{0: {1, 0, 0, 1, 1, 0}, 1: {1, 1, 1, 0, 1, 0}, 2: {1, 1, 1, 1, 1, 0}, 30: {1, 1, 1, 1, 1, 0}, 31: {1, 0, 0, 1, 1, 0}} {
		if got, e := tap.Node(l, node); !slices.Equal(got, want) || e != api.OK {
			t.Errorf("Node(%d) = %v, %v, not %v", node, got, e, want)
		}
	}
	if got, e := tap.Bus(l); !slices.Equal(got, numbers(1, 0, 0, 0, 1, 0)) || e != api.OK {
		t.Error("Bus", got, e)
	}
	// Of a bus of three nodes, bits of no node are 1.
	for node := 3; node < 32; node++ {
		if got, e := tap.Node(runs(quiet(1), loud(1, 0), loud(1, 0, 1, 2)), node); !slices.Equal(got, numbers(1, 1, 1)) || e != api.OK {
			t.Errorf("Node(%d) of three nodes = %v, %v", node, got, e)
		}
	}
}

// noNodes are numbers of no node.
var noNodes = []int{least, least + 1, math.MinInt32, -1 << 32, -33, -32, -31, -2, -1, 32, 33, 63, 64, 255, 256, 1 << 31, 1 << 32, 1<<32 + 31, greatest - 1, greatest}

func TestNoNodes(t *testing.T) {
	for _, node := range noNodes {
		for _, l := range [][]api.Run{nil, example(), {quiet(1 << 20)}, {quiet(1<<20 + 1)}, {quiet(1 << 30)}, {quiet(1 << 20), loud(1, 0)}} {
			if got, e := tap.Node(l, node); len(got) != 0 || e != api.ErrRange {
				t.Errorf("Node(%v, %d) = %v, %v", l, node, len(got), e)
			}
		}
		for _, l := range [][]api.Run{{quiet(1 << 30), quiet(1)}, {quiet(1 << 30), loud(1<<30, 0)}} {
			if got, e := tap.Node(l, node); len(got) != 0 || e != api.ErrLong {
				t.Errorf("Node(%v, %d) = %v, %v", l, node, len(got), e)
			}
		}
	}
}

func TestManyLevels(t *testing.T) {
	const most = 1048576
	for _, l := range [][]api.Run{{quiet(most)}, {quiet(most - 1), loud(1, 0)}, {loud(1, 0, 31), quiet(most - 1)}, slices.Repeat(runs(quiet(1), loud(1, 0)), most/2)} {
		holdsMost(t, l, "Bus", tap.Bus, func(r api.Run) int { return r.Bus })
		for _, node := range []int{0, 7, 31} {
			ask := func(l []api.Run) ([]int, api.Errno) { return tap.Node(l, node) }
			holdsMost(t, l, fmt.Sprintf("Node %d", node), ask, func(r api.Run) int { return paperNode(r.Drive, node) })
		}
		for _, more := range []api.Run{quiet(1), loud(1, 0), quiet(most), loud(1<<29, 3)} {
			refusesMost(t, append(slices.Clone(l), more))
			refusesMost(t, append(runs(more), l...))
		}
	}
	refusesMost(t, runs(quiet(most+1)))
	refusesMost(t, runs(loud(1<<30, 3)))
}

// holdsMost holds the levels of just as many ticks as may be.
func holdsMost(t *testing.T, l []api.Run, call string, ask func([]api.Run) ([]int, api.Errno), level func(api.Run) int) {
	t.Helper()
	got, e := ask(l)
	if len(got) != 1048576 || e != api.OK {
		t.Fatalf("%s of just so many ticks: %d levels, %v", call, len(got), e)
	}
	tick := 0
	for _, r := range l {
		want := level(r)
		for range r.N {
			if got[tick] != want {
				t.Fatalf("%s of just so many ticks: %d at %d", call, got[tick], tick)
			}
			tick++
		}
	}
}

// refusesMost holds calls of right runs with more ticks than there may be levels.
func refusesMost(t *testing.T, l []api.Run) {
	t.Helper()
	if e := tap.Check(l); e != api.OK {
		t.Fatalf("Check of more ticks than levels: %v", e)
	}
	if got, e := tap.Bus(l); len(got) != 0 || e != api.ErrLong {
		t.Errorf("Bus of too many ticks: %d levels, %v", len(got), e)
	}
	for node := -2; node < 34; node++ {
		fault := api.ErrLong
		if node < 0 || node > 31 {
			fault = api.ErrRange
		}
		if got, e := tap.Node(l, node); len(got) != 0 || e != fault {
			t.Errorf("Node(%d) of too many ticks: %d levels, %v", node, len(got), e)
		}
	}
}

// Levels are told of runs that are wrong as Check tells them, whatever node is asked for.
func TestLevelsOfWrongRuns(t *testing.T) {
	for _, l := range [][]api.Run{{quiet(0)}, {quiet(1 << 30), loud(0, 0)}, {quiet(1 << 30), quiet(1), {N: 1, Bus: 1}}} {
		for node := -2; node < 34; node++ {
			if got, e := tap.Node(l, node); len(got) != 0 || e != api.ErrRange {
				t.Errorf("Node(%v, %d) = %v, %v", l, node, got, e)
			}
		}
		if got, e := tap.Bus(l); len(got) != 0 || e != api.ErrRange {
			t.Errorf("Bus(%v) = %v, %v", l, got, e)
		}
	}
}
