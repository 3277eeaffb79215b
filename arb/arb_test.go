package arb

import (
	"fmt"
	"math"
	"slices"
	"testing"

	"magneto/api"
	"magneto/frame"
)

func short(id int) api.Frame { return api.Frame{ID: id} }

func long(id int) api.Frame { return api.Frame{ID: id, Ext: true} }

func remote(f api.Frame) api.Frame {
	f.Rtr = true
	return f
}

// carrying is a frame that is not remote, with bytes.
func carrying(f api.Frame, data ...byte) api.Frame {
	f.Len = len(data)
	copy(f.Data[:], data)
	return f
}

// arbitration are a frame's levels of arbitration, in the document's own words, apart from the program.
func arbitration(f api.Frame) string {
	last := 0
	if f.Rtr {
		last = 1
	}
	if f.Ext {
		return fmt.Sprintf("%011b11%018b%d", f.ID/262144, f.ID%262144, last)
	}
	return fmt.Sprintf("%011b%d0", f.ID, last)
}

// lost is the place at which a frame loses against another one, by the texts of their levels; -1: it does not.
func lost(a, b api.Frame) int {
	own, others := arbitration(a), arbitration(b)
	for at := range own {
		if own[at] != others[at] {
			if own[at] == '1' {
				return at
			}
			return -1
		}
	}
	panic("they have the same levels")
}

// among are frames that may begin at once: of each kind, with IDs at which something may change.
func among() []api.Frame {
	var l []api.Frame
	for _, id := range []int{0, 1, 2, 3, 5, 290, 291, 1023, 1024, 1025, 2046, 2047} {
		l = append(l, short(id), remote(short(id)))
		for _, tail := range []int{0, 1, 2, 1<<17 - 1, 1 << 17, 1<<18 - 2, 1<<18 - 1} {
			l = append(l, long(id<<18|tail), remote(long(id<<18|tail)))
		}
	}
	return l
}

// wrong are frames that may not be.
func wrong() []api.Frame {
	return []api.Frame{
		short(-1), short(2048), short(4000), short(536870911), short(math.MinInt), short(math.MaxInt), remote(short(2048)),
		long(-1), long(536870912), long(1 << 32), long(math.MinInt), long(math.MaxInt), remote(long(-1)),
		{Len: -1}, {Len: 9}, {Len: math.MaxInt}, {Len: 9, Rtr: true}, {Len: 9, Ext: true},
		{Data: [8]byte{1}}, {Len: 7, Data: [8]byte{7: 1}}, {Len: 1, Rtr: true, Data: [8]byte{1}},
	}
}

// mixed are frames in another order, that hangs on the seed alone.
func mixed(l []api.Frame, seed int) []api.Frame {
	l = slices.Clone(l)
	for i := len(l) - 1; i > 0; i-- {
		seed = (seed*1103515245 + 12345) % (1 << 31)
		k := (seed >> 8) % (i + 1)
		l[i], l[k] = l[k], l[i]
	}
	return l
}

// arrangements are all orders of frames.
func arrangements(l []api.Frame) [][]api.Frame {
	if len(l) == 0 {
		return [][]api.Frame{nil}
	}
	var all [][]api.Frame
	for i := range l {
		for _, rest := range arrangements(slices.Delete(slices.Clone(l), i, i+1)) {
			all = append(all, append([]api.Frame{l[i]}, rest...))
		}
	}
	return all
}

// picked are the frames at places.
func picked(l []api.Frame, places []int) []api.Frame {
	var row []api.Frame
	for _, at := range places {
		row = append(row, l[at])
	}
	return row
}

// survivor is the place of the one that is left, as Wired tells the bus, and those at odds with it drop out.
func survivor(t *testing.T, l []api.Frame) int {
	t.Helper()
	left := make([]int, len(l))
	for i := range left {
		left[i] = i
	}
	for at := range 32 {
		var levels []int
		for _, i := range left {
			if own := arbitration(l[i]); at < len(own) {
				levels = append(levels, int(own[at]-'0'))
			}
		}
		bus := Wired(levels...)
		left = slices.DeleteFunc(left, func(i int) bool {
			own := arbitration(l[i])
			return at < len(own) && int(own[at]-'0') != bus
		})
	}
	if len(left) != 1 {
		t.Fatalf("%d of %+v are left", len(left), l)
	}
	return left[0]
}

// wantLoses holds Loses, both ways round, against the place at which a loses.
func wantLoses(t *testing.T, a, b api.Frame, at int) {
	t.Helper()
	if n, e := Loses(a, b); n != at || e != api.OK {
		t.Errorf("Loses(%+v, %+v) = %d, %v, not %d", a, b, n, e, at)
	}
	if n, e := Loses(b, a); n != -1 || e != api.OK {
		t.Errorf("Loses(%+v, %+v) = %d, %v, not -1", b, a, n, e)
	}
}

// wantWrong holds Winner and Order of frames against an error.
func wantWrong(t *testing.T, l []api.Frame, want api.Errno) {
	t.Helper()
	if n, e := Winner(l); n != 0 || e != want {
		t.Errorf("Winner(%+v) = %d, %v, not %v", l, n, e, want)
	}
	if o, e := Order(l); len(o) != 0 || e != want {
		t.Errorf("Order(%+v) = %v, %v, not %v", l, o, e, want)
	}
}

// wantOrder holds Order and Winner of frames against the frames as they win.
func wantOrder(t *testing.T, l, want []api.Frame) {
	t.Helper()
	o, e := Order(l)
	if e != api.OK || len(o) != len(l) || !slices.Equal(picked(l, o), want) {
		t.Fatalf("Order(%+v) = %v, %v, not the places of %+v", l, o, e, want)
	}
	if n, e := Winner(l); e != api.OK || n != o[0] {
		t.Fatalf("Winner(%+v) = %d, %v, not %d", l, n, e, o[0])
	}
}

// P7.1

func TestWired(t *testing.T) {
	for _, x := range []struct {
		l    []int
		want int
	}{
		{nil, 1}, {[]int{}, 1}, {[]int{0}, 0}, {[]int{1}, 1},
		{[]int{0, 0}, 0}, {[]int{0, 1}, 0}, {[]int{1, 0}, 0}, {[]int{1, 1}, 1}, {[]int{1, 0, 1}, 0},
		{[]int{2}, 1}, {[]int{-1}, 1}, {[]int{48}, 1}, {[]int{1 << 32}, 1}, {[]int{256}, 1}, {[]int{math.MinInt}, 1}, {[]int{math.MaxInt}, 1},
		{[]int{1, 1, 5}, 1}, {[]int{-1, 2}, 1}, {[]int{2, -2}, 1}, {[]int{5, 0}, 0}, {[]int{0, 5}, 0}, {[]int{-1, 0, 7}, 0}, {[]int{1, -1, 0}, 0},
	} {
		if n := Wired(x.l...); n != x.want {
			t.Errorf("Wired(%v) = %d, not %d", x.l, n, x.want)
		}
	}
	if Wired() != 1 || Wired(1, 0, 1) != 0 {
		t.Error("of none, or of 1, 0, 1")
	}
}

func TestWiredAtEachPlace(t *testing.T) {
	for _, other := range []int{1, 2, -1} {
		for n := 1; n <= 40; n++ {
			l := slices.Repeat([]int{other}, n)
			if Wired(l...) != 1 {
				t.Fatalf("%d of %d are not 1", n, other)
			}
			for at := range l {
				l[at] = 0
				if Wired(l...) != 0 {
					t.Fatalf("%v are not 0", l)
				}
				l[at] = other
			}
		}
	}
}

// P7.2

func TestLosesNamed(t *testing.T) {
	for _, x := range []struct {
		a, b api.Frame
		at   int
	}{
		{short(291), short(290), 10},
		{long(5 << 18), short(5), 11},
		{remote(long(5 << 18)), short(5), 11},
		{long(5 << 18), remote(short(5)), 12}, // the remote short one has the 1 of a long one, and then the 0
		{remote(long(5 << 18)), remote(short(5)), 12},
		{long(0), short(0), 11}, {long(0), remote(short(0)), 12}, {long(1<<29 - 1), short(2047), 11}, {long(1<<29 - 1), remote(short(2047)), 12},
		{short(6), long(5<<18 | 262143), 9}, {short(6), remote(long(5<<18 | 262143)), 9},
		{short(1024), short(0), 0}, {short(1), short(0), 10}, {remote(short(5)), short(5), 11},
		{long(1 << 28), long(0), 0}, {long(1 << 18), long(0), 10}, {long(1 << 17), long(0), 13}, {long(1), long(0), 30}, {remote(long(5)), long(5), 31},
		// What is behind the first place at which they differ does not count.
		{short(1024), remote(short(1023)), 0}, {short(4), short(3), 8}, {short(6), remote(short(5)), 9},
		{long(1 << 28), remote(long(1<<28 - 1)), 0}, {long(1 << 17), remote(long(1<<17 - 1)), 13}, {long(2), remote(long(1)), 29}, {long(1 << 18), long(1<<18 - 1), 10},
		// Nor does what they carry.
		{carrying(short(291)), carrying(short(290), 255, 255), 10}, {carrying(short(291), 1, 2, 3), short(290), 10}, {remote(short(5)), carrying(short(5), 1, 2, 3, 4, 5, 6, 7, 8), 11},
	} {
		wantLoses(t, x.a, x.b, x.at)
	}
}

func TestLosesAtEachLevel(t *testing.T) {
	for _, id := range []int{0, 291, 1023, 1365, 2047} {
		for bit := range 11 {
			zero, one := id&^(1<<bit), id|1<<bit
			at := 10 - bit
			wantLoses(t, short(one), short(zero), at)
			wantLoses(t, remote(short(one)), short(zero), at)
			wantLoses(t, short(one), remote(short(zero)), at)
			wantLoses(t, long(one<<18), short(zero), at)
			wantLoses(t, short(one), long(zero<<18|262143), at)
		}
		wantLoses(t, remote(short(id)), short(id), 11)
		wantLoses(t, long(id<<18), short(id), 11)
		wantLoses(t, long(id<<18), remote(short(id)), 12)
	}
	for _, id := range []int{0, 291 << 18, 0x0A5A5A5A, 0x15555555, 536870911} {
		for bit := range 29 {
			zero, one := id&^(1<<bit), id|1<<bit
			at := 28 - bit
			if bit < 18 {
				at += 2 // behind the two 1 of a long one
			}
			wantLoses(t, long(one), long(zero), at)
			wantLoses(t, remote(long(one)), long(zero), at)
			wantLoses(t, long(one), remote(long(zero)), at)
		}
		wantLoses(t, remote(long(id)), long(id), 31)
	}
}

func TestLosesAmongMany(t *testing.T) {
	l := among()
	for i, a := range l {
		for k, b := range l {
			if i == k {
				continue
			}
			want := lost(a, b)
			if at, e := Loses(a, b); at != want || e != api.OK {
				t.Fatalf("Loses(%+v, %+v) = %d, %v, not %d", a, b, at, e, want)
			}
		}
	}
}

func TestLosesSame(t *testing.T) {
	for _, f := range among() {
		others := []api.Frame{f}
		for n := 1; n <= 8; n++ {
			other := f
			other.Len = n
			others = append(others, other)
			if !f.Rtr {
				other.Data[n-1] = 255
				others = append(others, other)
			}
		}
		for _, other := range others {
			for _, x := range [][2]api.Frame{{f, other}, {other, f}} {
				if at, e := Loses(x[0], x[1]); at != 0 || e != api.ErrSame {
					t.Fatalf("Loses(%+v, %+v) = %d, %v", x[0], x[1], at, e)
				}
			}
		}
	}
}

func TestLosesWrong(t *testing.T) {
	for _, f := range wrong() {
		for _, other := range slices.Concat(among(), wrong()) {
			for _, x := range [][2]api.Frame{{f, other}, {other, f}} {
				if at, e := Loses(x[0], x[1]); at != 0 || e != api.ErrFrame {
					t.Fatalf("Loses(%+v, %+v) = %d, %v", x[0], x[1], at, e)
				}
			}
		}
	}
}

func TestWinnerNamed(t *testing.T) {
	for _, x := range []struct {
		l    []api.Frame
		want int
	}{
		{[]api.Frame{short(2047)}, 0}, {[]api.Frame{remote(long(536870911))}, 0}, {[]api.Frame{{}}, 0},
		{[]api.Frame{short(291), short(290)}, 1}, {[]api.Frame{short(290), short(291)}, 0},
		{[]api.Frame{long(5 << 18), short(5)}, 1}, {[]api.Frame{short(5), long(5 << 18)}, 0},
		{[]api.Frame{long(5 << 18), remote(short(5))}, 1}, {[]api.Frame{short(6), long(5 << 18)}, 1},
		{[]api.Frame{short(3), short(2), short(1), short(2047)}, 2}, {[]api.Frame{remote(short(1)), long(1 << 18), short(1)}, 2},
		{[]api.Frame{carrying(short(1), 255, 255), carrying(short(0), 255), short(2)}, 1},
	} {
		if n, e := Winner(x.l); n != x.want || e != api.OK {
			t.Errorf("Winner(%+v) = %d, %v, not %d", x.l, n, e, x.want)
		}
	}
}

func TestWinnerAtEachPlace(t *testing.T) {
	l := []api.Frame{short(7), remote(short(6)), long(5 << 18), short(2047), remote(long(536870911)), short(1024), long(0x0A5A5A5A)}
	for at := range len(l) + 1 {
		with := slices.Insert(slices.Clone(l), at, short(4))
		if n, e := Winner(with); n != at || e != api.OK {
			t.Errorf("Winner(%+v) = %d, %v, not %d", with, n, e, at)
		}
	}
}

func TestOfNone(t *testing.T) {
	for _, l := range [][]api.Frame{nil, {}, among()[:0]} {
		if n, e := Winner(l); n != 0 || e != api.ErrNone {
			t.Errorf("Winner of none is %d, %v", n, e)
		}
		if o, e := Order(l); len(o) != 0 || e != api.OK {
			t.Errorf("Order of none is %v, %v", o, e)
		}
	}
}

// P7.2, P7.3

func TestManyWithAWrongOne(t *testing.T) {
	for _, f := range wrong() {
		wantWrong(t, []api.Frame{f}, api.ErrFrame)
		wantWrong(t, []api.Frame{f, f}, api.ErrFrame)
		l := []api.Frame{short(1), long(0), remote(short(5)), short(2047)}
		for at := range len(l) + 1 {
			wantWrong(t, slices.Insert(slices.Clone(l), at, f), api.ErrFrame)
		}
		// It is told first, wherever two that are alike stand.
		a, b := short(5), carrying(short(5), 1)
		for _, l := range [][]api.Frame{{a, a, f}, {f, a, a}, {a, f, a}, {a, b, f}, {f, a, b}, {b, f, a}, {a, short(1), a, f}, {f, short(1), a, b}} {
			wantWrong(t, l, api.ErrFrame)
		}
	}
	wantWrong(t, wrong(), api.ErrFrame)
	wantWrong(t, append(mixed(among(), 5), short(2048)), api.ErrFrame)
}

func TestManyWithTwoAlike(t *testing.T) {
	l := []api.Frame{short(1), long(1 << 18), remote(short(5)), short(2047), long(0), remote(long(77))}
	for _, f := range l {
		alike := []api.Frame{f}
		for _, n := range []int{1, 8} {
			other := f
			other.Len = n
			alike = append(alike, other)
		}
		if !f.Rtr {
			alike = append(alike, carrying(f, 9, 8, 7))
		}
		for _, other := range alike {
			wantWrong(t, []api.Frame{f, other}, api.ErrSame)
			wantWrong(t, []api.Frame{f, other, f}, api.ErrSame)
			for at := range len(l) + 1 {
				wantWrong(t, slices.Insert(slices.Clone(l), at, other), api.ErrSame)
			}
		}
	}
	// They are found wherever they stand among many, also as the last ones of the order.
	for i, f := range among() {
		wantWrong(t, mixed(append(among(), f), i), api.ErrSame)
	}
	wantWrong(t, slices.Repeat([]api.Frame{short(5)}, 1000), api.ErrSame)
}

// P7.3

func TestOrderNamed(t *testing.T) {
	for _, x := range []struct {
		l    []api.Frame
		want []int
	}{
		{[]api.Frame{short(5)}, []int{0}}, {[]api.Frame{remote(long(5))}, []int{0}},
		{[]api.Frame{short(291), short(290)}, []int{1, 0}}, {[]api.Frame{short(290), short(291)}, []int{0, 1}},
		{[]api.Frame{long(5 << 18), short(5)}, []int{1, 0}}, {[]api.Frame{long(5 << 18), remote(short(5))}, []int{1, 0}},
		{[]api.Frame{long(5 << 18), short(6), remote(short(5)), short(5), short(4)}, []int{4, 3, 2, 0, 1}},
		{[]api.Frame{short(3), short(1), short(2)}, []int{1, 2, 0}}, // the places of frames, not the ranks of places
		{[]api.Frame{remote(long(1)), long(2), long(1), remote(short(0)), short(0)}, []int{4, 3, 2, 0, 1}},
	} {
		if o, e := Order(x.l); !slices.Equal(o, x.want) || e != api.OK {
			t.Errorf("Order(%+v) = %v, %v, not %v", x.l, o, e, x.want)
		}
	}
}

func TestOrderOfEachArrangement(t *testing.T) {
	inOrder := []api.Frame{short(4), carrying(short(5), 255), remote(short(5)), long(5 << 18), remote(long(5 << 18)), long(5<<18 | 1), short(6)}
	for n := 1; n <= len(inOrder); n++ {
		for _, l := range arrangements(inOrder[:n]) {
			wantOrder(t, l, inOrder[:n])
		}
	}
}

func TestOrderOfMany(t *testing.T) {
	inOrder := make([]api.Frame, 0, 3*2048)
	for id := range 2048 {
		inOrder = append(inOrder, short(id), remote(short(id)), long(id<<18|id))
	}
	backward := slices.Clone(inOrder)
	slices.Reverse(backward)
	wantOrder(t, inOrder, inOrder)
	wantOrder(t, backward, inOrder)
	for seed := range 20 {
		wantOrder(t, mixed(inOrder, seed), inOrder)
	}
	backward[len(backward)-1] = backward[0]
	wantWrong(t, backward, api.ErrSame)
}

// P7.4

func TestJustOneOfTwoLoses(t *testing.T) {
	l := among()
	for i, a := range l {
		for _, b := range l[:i] {
			first, e := Loses(a, b)
			second, again := Loses(b, a)
			if e != api.OK || again != api.OK || (first == -1) == (second == -1) || min(first, second) != -1 {
				t.Fatalf("%+v, %+v: %d, %v and %d, %v", a, b, first, e, second, again)
			}
			if (first == -1) != frame.Less(a, b) {
				t.Fatalf("Loses(%+v, %+v) = %d, against frame.Less", a, b, first)
			}
		}
	}
}

func TestWinnerIsToldByWired(t *testing.T) {
	for seed := range 400 {
		l := mixed(among(), seed)[:1+seed%len(among())]
		want := survivor(t, l)
		if n, e := Winner(l); n != want || e != api.OK {
			t.Fatalf("Winner(%+v) = %d, %v, not %d", l, n, e, want)
		}
	}
}

func TestEachInOrderWinsAmongThoseLeft(t *testing.T) {
	for seed := range 40 {
		l := mixed(among(), seed)[:1+4*seed]
		o, e := Order(l)
		if e != api.OK || len(o) != len(l) {
			t.Fatalf("Order(%+v) = %v, %v", l, o, e)
		}
		row := picked(l, o)
		for i, f := range row {
			if n, e := Winner(row[i:]); n != 0 || e != api.OK {
				t.Fatalf("Winner of those from the place %d of the order on is %d, %v", i, n, e)
			}
			if survivor(t, row[i:]) != 0 {
				t.Fatalf("%+v at the place %d of the order drops out", f, i)
			}
			for _, behind := range row[i+1:] {
				if !frame.Less(f, behind) || lost(f, behind) != -1 {
					t.Fatalf("%+v comes not ahead of %+v", f, behind)
				}
			}
		}
	}
}

// R2, R3

func TestLevelsAreLeftAsTheyAre(t *testing.T) {
	whole := []int{1, 0, 1, 5, 1, 0, -1, 1}
	before := slices.Clone(whole)
	for n := range len(whole) + 1 {
		Wired(whole[:n]...)
	}
	if !slices.Equal(whole, before) {
		t.Errorf("%v has become %v", before, whole)
	}
}

func TestFramesAreLeftAsTheyAre(t *testing.T) {
	for _, more := range [][]api.Frame{nil, {short(5)}, {short(-1)}} {
		whole := append(mixed(among(), 3), more...)
		before := slices.Clone(whole)
		for n := range len(whole) + 1 {
			Winner(whole[:n])
			Order(whole[:n])
		}
		if !slices.Equal(whole, before) {
			t.Errorf("%v has become %v", before, whole)
		}
	}
}

func TestAnswersShareNothing(t *testing.T) {
	l := []api.Frame{short(3), short(1), short(2)}
	first, _ := Order(l)
	second, _ := Order(l)
	for i := range first {
		first[i] = 9
	}
	first = append(first, 9)
	third, _ := Order(l)
	for _, o := range [][]int{second, third} {
		if !slices.Equal(o, []int{1, 2, 0}) {
			t.Errorf("%v behind %v", o, first)
		}
	}
	l[0], l[1] = short(0), short(7)
	if !slices.Equal(second, []int{1, 2, 0}) {
		t.Errorf("the order has become %v", second)
	}
}
