package tap_test

import (
	"fmt"
	"math/big"
	"slices"
	"strings"
	"testing"

	"magneto/api"
	"magneto/tap"
)

// Runs, written down apart from the program, in the document's own words: tick by tick, and by the digits of what is driven.

// nobody is a drive in which no node drives 0.
const nobody = 4294967295

// driving is a drive in which some nodes drive 0.
func driving(nodes ...int) uint32 {
	text := []byte(strings.Repeat("1", 32))
	for _, node := range nodes {
		text[31-node] = '0'
	}
	drive := uint32(0)
	fmt.Sscanf(string(text), "%b", &drive)
	return drive
}

// digits are the 32 bits of a drive, that of node 31 first.
func digits(drive uint32) string { return fmt.Sprintf("%032b", drive) }

// quiet are ticks in which nobody drives 0.
func quiet(n int) api.Run { return api.Run{N: n, Bus: 1, Drive: nobody} }

// loud are ticks in which some nodes drive 0.
func loud(n int, nodes ...int) api.Run { return api.Run{N: n, Bus: 0, Drive: driving(nodes...)} }

// paperRight tells whether a run is right.
func paperRight(r api.Run) bool {
	bus := 1
	if strings.Contains(digits(r.Drive), "0") {
		bus = 0
	}
	return r.N >= 1 && r.N <= 1073741824 && r.Bus == bus
}

// paperCheck is Check.
func paperCheck(l []api.Run) api.Errno {
	all := new(big.Int)
	for _, r := range l {
		if !paperRight(r) {
			return api.ErrRange
		}
		all.Add(all, big.NewInt(int64(r.N)))
	}
	if all.Cmp(big.NewInt(1073741824)) > 0 {
		return api.ErrLong
	}
	return api.OK
}

// oneByOne is what there is at each tick of runs, right or not.
func oneByOne(l []api.Run) []api.Run {
	var ticks []api.Run
	for _, r := range l {
		for n := 0; n < r.N; n++ {
			ticks = append(ticks, api.Run{N: 1, Bus: r.Bus, Drive: r.Drive})
		}
	}
	return ticks
}

// together are the runs of ticks.
func together(ticks []api.Run) []api.Run {
	var l []api.Run
	for i := range ticks {
		if i == 0 || ticks[i] != ticks[i-1] {
			l = append(l, api.Run{Bus: ticks[i].Bus, Drive: ticks[i].Drive})
		}
		l[len(l)-1].N++
	}
	return l
}

// paperNode is the level of a node in a drive.
func paperNode(drive uint32, node int) int {
	if digits(drive)[31-node] == '1' {
		return 1
	}
	return 0
}

// walked are the ticks that are gone through, and what there is at them, up to so many.
func walked(l []api.Run, most int) ([]int, []api.Run) {
	var ticks []int
	var runs []api.Run
	if most == 0 {
		return nil, nil
	}
	for tick, r := range tap.Each(l) {
		ticks, runs = append(ticks, tick), append(runs, r)
		if len(ticks) == most {
			break
		}
	}
	return ticks, runs
}

// upTo are the numbers from 0 on, so many.
func upTo(n int) []int {
	var l []int
	for i := 0; i < n; i++ {
		l = append(l, i)
	}
	return l
}

// holdsAll holds each call of runs, that have few ticks, against what there is on paper.
func holdsAll(t *testing.T, l []api.Run) {
	t.Helper()
	ticks := oneByOne(l)
	if got := tap.Join(l); !slices.Equal(got, together(ticks)) {
		t.Errorf("Join(%v) = %v, not %v", l, got, together(ticks))
	}
	e := paperCheck(l)
	if got := tap.Check(l); got != e {
		t.Errorf("Check(%v) = %v, not %v", l, got, e)
	}
	if e != api.OK {
		refusesAll(t, l, e)
		return
	}
	if n, e := tap.Ticks(l); n != len(ticks) || e != api.OK {
		t.Errorf("Ticks(%v) = %v, %v, not %v", l, n, e, len(ticks))
	}
	for tick := -2; tick < len(ticks)+2; tick++ {
		holdsAt(t, l, ticks, tick)
	}
	for from := -1; from < len(ticks)+2; from++ {
		for to := -1; to < len(ticks)+2; to++ {
			holdsCut(t, l, ticks, from, to)
		}
	}
	for most := range len(ticks) + 2 {
		numbers, runs := walked(l, most)
		some := min(most, len(ticks))
		if !slices.Equal(numbers, upTo(some)) || !slices.Equal(runs, ticks[:some]) {
			t.Errorf("Each(%v), left behind %d, goes through %v, %v", l, most, numbers, runs)
		}
	}
	holdsLevels(t, l, ticks)
}

// holdsAt holds what there is at a tick against what there is on paper.
func holdsAt(t *testing.T, l, ticks []api.Run, tick int) {
	t.Helper()
	want, fault := api.Run{}, api.ErrRange
	if tick >= 0 && tick < len(ticks) {
		want, fault = ticks[tick], api.OK
	}
	if r, e := tap.At(l, tick); r != want || e != fault {
		t.Errorf("At(%v, %d) = %v, %v, not %v, %v", l, tick, r, e, want, fault)
	}
}

// holdsCut holds the ticks between two against those on paper.
func holdsCut(t *testing.T, l, ticks []api.Run, from, to int) {
	t.Helper()
	var want []api.Run
	fault := api.ErrRange
	if 0 <= from && from <= to && to <= len(ticks) {
		want, fault = together(ticks[from:to]), api.OK
	}
	if cut, e := tap.Cut(l, from, to); !slices.Equal(cut, want) || e != fault {
		t.Errorf("Cut(%v, %d, %d) = %v, %v, not %v, %v", l, from, to, cut, e, want, fault)
	}
}

// holdsLevels holds levels, tick by tick, against those on paper.
func holdsLevels(t *testing.T, l, ticks []api.Run) {
	t.Helper()
	var want []int
	for _, r := range ticks {
		want = append(want, r.Bus)
	}
	if got, e := tap.Bus(l); !slices.Equal(got, want) || e != api.OK {
		t.Errorf("Bus(%v) = %v, %v, not %v", l, got, e, want)
	}
	for node := -2; node < 34; node++ {
		want, fault := []int(nil), api.ErrRange
		if node >= 0 && node < 32 {
			fault = api.OK
			for _, r := range ticks {
				want = append(want, paperNode(r.Drive, node))
			}
		}
		if got, e := tap.Node(l, node); !slices.Equal(got, want) || e != fault {
			t.Errorf("Node(%v, %d) = %v, %v, not %v, %v", l, node, got, e, want, fault)
		}
	}
}

// refusesAll holds each call that asks whether runs are right against an error.
func refusesAll(t *testing.T, l []api.Run, fault api.Errno) {
	t.Helper()
	told := func(call string, nothing bool, e api.Errno) {
		t.Helper()
		if !nothing || e != fault {
			t.Errorf("%s of %v answers %v, or something beside it, not %v alone", call, l, e, fault)
		}
	}
	told("Check", true, tap.Check(l))
	n, e := tap.Ticks(l)
	told("Ticks", n == 0, e)
	for _, tick := range []int{least, -1, 0, 1, 1 << 30, greatest} {
		r, e := tap.At(l, tick)
		told(fmt.Sprintf("At %d", tick), r == api.Run{}, e)
	}
	for _, span := range [][2]int{{0, 0}, {0, 1}, {1, 2}, {-1, 0}, {1, 0}, {0, 1 << 30}, {least, greatest}, {greatest, least}} {
		cut, e := tap.Cut(l, span[0], span[1])
		told(fmt.Sprintf("Cut %v", span), len(cut) == 0, e)
	}
	levels, e := tap.Bus(l)
	told("Bus", len(levels) == 0, e)
	for _, node := range []int{least, -1, 0, 31, 32, greatest} {
		levels, e := tap.Node(l, node)
		told(fmt.Sprintf("Node %d", node), len(levels) == 0, e)
	}
	for tick, r := range tap.Each(l) {
		t.Fatalf("Each of %v goes through %d, %v", l, tick, r)
	}
}
