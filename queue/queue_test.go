package queue

import (
	"fmt"
	"math"
	"slices"
	"testing"

	"magneto/api"
)

func short(id int) api.Frame { return api.Frame{ID: id} }

func long(id int) api.Frame { return api.Frame{ID: id, Ext: true} }

// remote is a frame that asks for so many bytes.
func remote(f api.Frame, length int) api.Frame {
	f.Rtr, f.Len = true, length
	return f
}

// carrying is a frame that is not remote, with bytes.
func carrying(f api.Frame, data ...byte) api.Frame {
	f.Len = len(data)
	copy(f.Data[:], data)
	return f
}

// shorts are short frames of IDs.
func shorts(ids ...int) []api.Frame {
	var l []api.Frame
	for _, id := range ids {
		l = append(l, short(id))
	}
	return l
}

// arbitration are a frame's levels of arbitration, in the document's own words, apart from the program.
func arbitration(f api.Frame) string {
	last := 0
	if f.Rtr {
		last = 1
	}
	if f.Ext {
		return fmt.Sprintf("%011b11%018b%d", f.ID/262144, f.ID%262144, last)
	}
	return fmt.Sprintf("%011b%d0", f.ID, last)
}

// paper is a queue written down apart from the program: its frames stand as they were put in, and are put in order as one asks.
type paper struct {
	most int
	came []api.Frame
}

// inOrder are the frames: of those with the least levels of arbitration the earliest one, and so on.
func (p *paper) inOrder() []api.Frame {
	left := slices.Clone(p.came)
	var l []api.Frame
	for len(left) > 0 {
		next := 0
		for i := range left {
			if arbitration(left[i]) < arbitration(left[next]) {
				next = i
			}
		}
		l = append(l, left[next])
		left = slices.Delete(left, next, next+1)
	}
	return l
}

// put is Put of frames that may be.
func (p *paper) put(f api.Frame) api.Errno {
	if len(p.came) == p.most {
		return api.ErrFull
	}
	p.came = append(p.came, f)
	return api.OK
}

func (p *paper) drop(f api.Frame) api.Errno {
	for i := range p.came {
		if p.came[i] == f {
			p.came = append(slices.Clone(p.came[:i]), p.came[i+1:]...)
			return api.OK
		}
	}
	return api.ErrNone
}

// made is a queue of so many, with frames put in.
func made(t *testing.T, most int, l ...api.Frame) *Queue {
	t.Helper()
	q, e := New(most)
	if q == nil || e != api.OK {
		t.Fatalf("New(%d) = %v, %v", most, q, e)
	}
	puts(t, q, l...)
	return q
}

// puts has frames put in that have room.
func puts(t *testing.T, q *Queue, l ...api.Frame) {
	t.Helper()
	for _, f := range l {
		if e := q.Put(f); e != api.OK {
			t.Fatalf("Put(%+v) = %v, with %+v in", f, e, q.All())
		}
	}
}

// holds holds a queue against the frames that it has to have, in order.
func holds(t *testing.T, q *Queue, want ...api.Frame) {
	t.Helper()
	if l := q.All(); !slices.Equal(l, want) {
		t.Errorf("All() = %+v, not %+v", l, want)
	}
	if n := q.Len(); n != len(want) {
		t.Errorf("Len() = %d, not %d", n, len(want))
	}
	f, is := q.First()
	if len(want) == 0 {
		if is || f != (api.Frame{}) {
			t.Errorf("First() = %+v, %v of none", f, is)
		}
	} else if !is || f != want[0] {
		t.Errorf("First() = %+v, %v, not %+v", f, is, want[0])
	}
}

// answers holds an error against the one that has to be.
func answers(t *testing.T, call string, got, want api.Errno) {
	t.Helper()
	if got != want {
		t.Errorf("%s answers %v, not %v", call, got, want)
	}
}

// mixed are frames in another order, that hangs on the seed alone.
func mixed(l []api.Frame, seed int) []api.Frame {
	l = slices.Clone(l)
	for i := len(l) - 1; i > 0; i-- {
		seed = (seed*1103515245 + 12345) % (1 << 31)
		k := (seed >> 8) % (i + 1)
		l[i], l[k] = l[k], l[i]
	}
	return l
}

// arrangements are all orders of frames.
func arrangements(l []api.Frame) [][]api.Frame {
	if len(l) == 0 {
		return [][]api.Frame{nil}
	}
	var all [][]api.Frame
	for i := range l {
		for _, rest := range arrangements(slices.Delete(slices.Clone(l), i, i+1)) {
			all = append(all, append([]api.Frame{l[i]}, rest...))
		}
	}
	return all
}

// ranked are sixteen frames of all kinds, no two alike on the bus, as they come.
func ranked() []api.Frame {
	return []api.Frame{
		short(0), remote(short(0), 0), long(0), remote(long(0), 8), long(1),
		carrying(short(5), 255, 255), remote(short(5), 3), long(5 << 18), remote(long(5<<18), 0), carrying(long(5<<18|1), 1),
		carrying(short(6), 0), short(291), short(1024), short(2047), carrying(long(536870911), 1, 2, 3, 4, 5, 6, 7, 8), remote(long(536870911), 8),
	}
}

// alike are frames that are alike on the bus, no two of them the same.
func alike() []api.Frame {
	return []api.Frame{
		carrying(short(5), 2), carrying(short(5), 1), short(5), carrying(short(5), 0), carrying(short(5), 1, 0),
		carrying(short(5), 255, 255, 255, 255, 255, 255, 255, 255), carrying(short(5), 0, 0, 0, 0, 0, 0, 0, 1),
	}
}

// wrong are frames that may not be.
func wrong() []api.Frame {
	return []api.Frame{
		short(-1), short(2048), short(536870911), short(math.MinInt), short(math.MaxInt), remote(short(2048), 0), remote(short(5), 9), remote(short(5), -1),
		long(-1), long(536870912), long(1 << 32), long(math.MinInt), long(math.MaxInt), remote(long(-1), 0),
		{Len: -1}, {Len: 9}, {Len: math.MaxInt}, {Len: math.MinInt}, {Len: 9, Ext: true},
		{Data: [8]byte{1}}, {Data: [8]byte{7: 1}}, {Len: 7, Data: [8]byte{7: 1}}, {Len: 1, Rtr: true, Data: [8]byte{1}}, {ID: -1, Len: 9, Rtr: true, Data: [8]byte{1}},
	}
}

// P9.1: New

func TestNew(t *testing.T) {
	for most := 1; most <= 16; most++ {
		q := made(t, most)
		holds(t, q)
		for n := range most {
			answers(t, fmt.Sprintf("Put as %d of %d are in", n, most), q.Put(short(n)), api.OK)
		}
		answers(t, fmt.Sprintf("Put as %d of %d are in", most, most), q.Put(short(0)), api.ErrFull)
		if q.Len() != most {
			t.Errorf("a queue of %d has %d", most, q.Len())
		}
	}
}

func TestNewOfNoRoom(t *testing.T) {
	for _, most := range []int{math.MinInt, math.MinInt + 1, math.MinInt32, -17, -16, -2, -1, 0, 17, 18, 32, 255, 256, 257, math.MaxInt32, 1 << 32, 1<<32 + 1, 1<<32 + 16, math.MaxInt - 1, math.MaxInt} {
		if q, e := New(most); q != nil || e != api.ErrRange {
			t.Errorf("New(%d) = %v, %v", most, q, e)
		}
	}
}

func TestQueuesAreApart(t *testing.T) {
	a, b := made(t, 2, short(5)), made(t, 2)
	holds(t, b)
	puts(t, b, short(7), short(6))
	holds(t, a, short(5))
	answers(t, "Drop", b.Drop(short(5)), api.ErrNone)
	answers(t, "Drop", a.Drop(short(5)), api.OK)
	holds(t, a)
	holds(t, b, shorts(6, 7)...)
}

// P9.1: Put

func TestPutAtEachLength(t *testing.T) {
	for _, most := range []int{1, 2, 3, 15, 16} {
		q := made(t, most)
		for n := range most {
			holds(t, q, ranked()[:n]...)
			puts(t, q, ranked()[n])
		}
		holds(t, q, ranked()[:most]...)
		for _, f := range append(ranked(), alike()...) {
			answers(t, "Put of a full one", q.Put(f), api.ErrFull)
		}
		holds(t, q, ranked()[:most]...)
	}
}

func TestPutOfFramesThatMayNotBe(t *testing.T) {
	for _, most := range []int{1, 2, 16} {
		for n := range most + 1 {
			l := ranked()[:n]
			q := made(t, most, l...)
			for _, f := range wrong() {
				// A full one, too: ErrFrame is named first.
				answers(t, fmt.Sprintf("Put(%+v) as %d of %d are in", f, n, most), q.Put(f), api.ErrFrame)
				holds(t, q, l...)
			}
		}
	}
}

func TestPutTheSameOften(t *testing.T) {
	for _, f := range []api.Frame{short(5), carrying(short(5), 1), remote(long(5), 8)} {
		var l []api.Frame
		q := made(t, 16)
		for range 16 {
			puts(t, q, f)
			l = append(l, f)
			holds(t, q, l...)
		}
		answers(t, "Put of a full one", q.Put(f), api.ErrFull)
		for n := 16; n > 0; n-- {
			holds(t, q, l[:n]...)
			answers(t, "Drop", q.Drop(f), api.OK)
		}
		answers(t, "Drop of none", q.Drop(f), api.ErrNone)
		holds(t, q)
	}
}

func TestPutTheSameAmongOthers(t *testing.T) {
	a, b := carrying(short(5), 1), carrying(short(5), 2)
	for _, x := range []struct{ l, want []api.Frame }{
		{[]api.Frame{a, b, a}, []api.Frame{a, b, a}},
		{[]api.Frame{b, a, a, b}, []api.Frame{b, a, a, b}},
		{[]api.Frame{a, short(4), b, short(6), a}, []api.Frame{short(4), a, b, a, short(6)}},
		{[]api.Frame{short(6), a, short(6), b, short(4), a, short(4)}, []api.Frame{short(4), short(4), a, b, a, short(6), short(6)}},
	} {
		holds(t, made(t, 16, x.l...), x.want...)
		holds(t, made(t, len(x.l), x.l...), x.want...)
	}
}

// P9.1: Drop

func TestDropAtEachPlace(t *testing.T) {
	for n := 1; n <= 16; n++ {
		l := ranked()[:n]
		for at := range n {
			q := made(t, n, mixed(l, n)...)
			answers(t, fmt.Sprintf("Drop of the one at %d of %d", at, n), q.Drop(l[at]), api.OK)
			left := slices.Delete(slices.Clone(l), at, at+1)
			holds(t, q, left...)
			answers(t, "Drop once more", q.Drop(l[at]), api.ErrNone)
			holds(t, q, left...)
		}
	}
}

func TestDropOfOneThatIsNotIn(t *testing.T) {
	for _, f := range append(ranked(), alike()...) {
		q := made(t, 16)
		answers(t, "Drop of none", q.Drop(f), api.ErrNone)
		holds(t, q)
	}
	l := shorts(1, 3, 5)
	q := made(t, 4, l...)
	for _, f := range []api.Frame{short(0), short(2), short(4), short(6), long(3), long(3 << 18), remote(short(3), 0), {}} {
		answers(t, fmt.Sprintf("Drop(%+v)", f), q.Drop(f), api.ErrNone)
		holds(t, q, l...)
	}
}

func TestDropOfFramesThatMayNotBe(t *testing.T) {
	for n := range 17 {
		l := ranked()[:n]
		q := made(t, 16, l...)
		for _, f := range wrong() {
			answers(t, fmt.Sprintf("Drop(%+v) as %d are in", f, n), q.Drop(f), api.ErrNone)
			holds(t, q, l...)
		}
	}
}

// TestDropOfOneAlike has a frame that is in, and others that differ from it in one of the things that it has.
func TestDropOfOneAlike(t *testing.T) {
	whole := carrying(short(5), 1, 2, 3, 4, 5, 6, 7, 8)
	l := []api.Frame{short(4), whole, short(6)}
	q := made(t, 3, l...)
	for i := range whole.Data {
		other := whole
		other.Data[i] ^= 0x80
		answers(t, fmt.Sprintf("Drop(%+v)", other), q.Drop(other), api.ErrNone)
	}
	for _, f := range alike() {
		answers(t, fmt.Sprintf("Drop(%+v)", f), q.Drop(f), api.ErrNone)
	}
	holds(t, q, l...)
	q = made(t, 3, remote(short(5), 4), carrying(short(7), 1, 0))
	for _, f := range []api.Frame{remote(short(5), 0), remote(short(5), 3), remote(short(5), 5), remote(short(5), 8), carrying(short(7), 1), carrying(short(7), 1, 0, 0), carrying(short(7), 0, 1), short(7)} {
		answers(t, fmt.Sprintf("Drop(%+v)", f), q.Drop(f), api.ErrNone)
	}
	holds(t, q, remote(short(5), 4), carrying(short(7), 1, 0))
}

// TestDropOfOneOfTheSame tells the two by what stands between them.
func TestDropOfOneOfTheSame(t *testing.T) {
	a, b, c := carrying(short(5), 1), carrying(short(5), 2), carrying(short(5), 3)
	for _, x := range []struct {
		l    []api.Frame
		drop api.Frame
		want []api.Frame
	}{
		{[]api.Frame{a, a}, a, []api.Frame{a}},
		{[]api.Frame{a, b, a}, a, []api.Frame{b, a}},
		{[]api.Frame{a, b, a}, b, []api.Frame{a, a}},
		{[]api.Frame{b, a, c, a}, a, []api.Frame{b, c, a}},
		{[]api.Frame{a, b, a, c, a}, a, []api.Frame{b, a, c, a}},
		{[]api.Frame{a, short(6), b, short(4), a}, a, []api.Frame{short(4), b, a, short(6)}},
		{[]api.Frame{b, a, b, c}, b, []api.Frame{a, b, c}},
	} {
		q := made(t, 16, x.l...)
		answers(t, "Drop", q.Drop(x.drop), api.OK)
		holds(t, q, x.want...)
	}
}

func TestRoomAgain(t *testing.T) {
	for _, most := range []int{1, 2, 15, 16} {
		l := ranked()[:most]
		q := made(t, most, mixed(l, most)...)
		for round := range 3 * most {
			at := round * 7 % most
			answers(t, "Put of a full one", q.Put(l[at]), api.ErrFull)
			answers(t, "Drop", q.Drop(l[at]), api.OK)
			holds(t, q, slices.Delete(slices.Clone(l), at, at+1)...)
			puts(t, q, l[at])
			holds(t, q, l...)
		}
		answers(t, "Put of a full one", q.Put(l[0]), api.ErrFull)
		for _, f := range l {
			answers(t, "Drop", q.Drop(f), api.OK)
		}
		holds(t, q)
		puts(t, q, l...)
		answers(t, "Put of a full one", q.Put(l[0]), api.ErrFull)
		holds(t, q, l...)
	}
}

// TestRefusedFramesTakeNoRoom has many refused ones ahead of those that have room.
func TestRefusedFramesTakeNoRoom(t *testing.T) {
	q := made(t, 2, short(5))
	for range 20 {
		q.Put(short(-1))
		q.Drop(short(9))
	}
	puts(t, q, short(3))
	for range 20 {
		answers(t, "Put of a full one", q.Put(short(1)), api.ErrFull)
	}
	holds(t, q, shorts(3, 5)...)
	answers(t, "Drop", q.Drop(short(1)), api.ErrNone)
}

// P9.2

func TestNil(t *testing.T) {
	var q *Queue
	for _, f := range append(append(ranked(), alike()...), wrong()...) {
		answers(t, "Put of nil", q.Put(f), api.ErrNil)
		answers(t, "Drop of nil", q.Drop(f), api.ErrNil)
	}
	if f, is := q.First(); is || f != (api.Frame{}) {
		t.Errorf("First() of nil = %+v, %v", f, is)
	}
	if n := q.Len(); n != 0 {
		t.Errorf("Len() of nil = %d", n)
	}
	if l := q.All(); len(l) != 0 {
		t.Errorf("All() of nil = %+v", l)
	}
	if c := q.Clone(); c != nil {
		t.Errorf("Clone() of nil = %+v", c)
	}
}

func TestFirstTakesNothingOut(t *testing.T) {
	q := made(t, 4, shorts(7, 5, 6)...)
	for range 5 {
		holds(t, q, shorts(5, 6, 7)...)
	}
	puts(t, q, short(4))
	holds(t, q, shorts(4, 5, 6, 7)...)
	answers(t, "Drop", q.Drop(short(4)), api.OK)
	holds(t, q, shorts(5, 6, 7)...)
}

func TestAllIsTheCallersOwn(t *testing.T) {
	for n := 1; n <= 16; n++ {
		want := ranked()[:n]
		q := made(t, 16, want...)
		first, second := q.All(), q.All()
		for i := range first {
			first[i] = short(2047)
		}
		holds(t, q, want...)
		if !slices.Equal(second, want) {
			t.Errorf("another answer has become %+v", second)
		}
		// What stands behind an answer's length is not the queue's, either.
		third := append(q.All()[:n-1], short(1), short(2), short(3))
		holds(t, q, want...)
		for _, f := range want {
			answers(t, "Drop", q.Drop(f), api.OK)
		}
		puts(t, q, short(9), short(8))
		if !slices.Equal(second, want) || !slices.Equal(third[n-1:], shorts(1, 2, 3)) {
			t.Errorf("answers have become %+v, %+v", second, third)
		}
		holds(t, q, shorts(8, 9)...)
	}
}

func TestAllBehindDropIsTheCallersOwn(t *testing.T) {
	q := made(t, 4, shorts(1, 2, 3, 4)...)
	answers(t, "Drop", q.Drop(short(2)), api.OK)
	l := append(q.All(), short(2000))
	puts(t, q, short(5))
	holds(t, q, shorts(1, 3, 4, 5)...)
	if !slices.Equal(l, shorts(1, 3, 4, 2000)) {
		t.Errorf("the answer has become %+v", l)
	}
}

func TestFirstIsTheCallersOwn(t *testing.T) {
	a := carrying(short(5), 1, 2)
	q := made(t, 2, a)
	f, _ := q.First()
	f.Data[0], f.ID = 9, 7
	holds(t, q, a)
	f, _ = q.First()
	answers(t, "Drop", q.Drop(a), api.OK)
	puts(t, q, short(1))
	if f != a {
		t.Errorf("the answer has become %+v", f)
	}
}

func TestPutKeepsNoHold(t *testing.T) {
	l := []api.Frame{carrying(short(5), 1), carrying(short(5), 2)}
	q := made(t, 3, l...)
	l[0].Data[0], l[1].ID = 9, 1
	holds(t, q, carrying(short(5), 1), carrying(short(5), 2))
}

func TestClone(t *testing.T) {
	for most := 1; most <= 16; most++ {
		for n := range most + 1 {
			l := ranked()[:n]
			q := made(t, most, mixed(l, most+n)...)
			c := q.Clone()
			if c == nil || c == q {
				t.Fatalf("Clone() = %p of %p", c, q)
			}
			holds(t, c, l...)
			// It may have as many, and no more; the other one stays.
			puts(t, c, ranked()[n:most]...)
			holds(t, c, ranked()[:most]...)
			answers(t, "Put of a clone that is full", c.Put(short(0)), api.ErrFull)
			holds(t, q, l...)
			puts(t, q, ranked()[n:most]...)
			answers(t, "Put of one that is full", q.Put(short(0)), api.ErrFull)
			holds(t, q, ranked()[:most]...)
		}
	}
}

func TestCloneGoesItsOwnWay(t *testing.T) {
	l := []api.Frame{carrying(short(5), 1), carrying(short(5), 2), short(6), long(1 << 27)}
	for at, f := range l {
		for _, ofClone := range []bool{true, false} {
			turned := made(t, 5, l...)
			left := turned.Clone()
			if ofClone {
				turned, left = left, turned
			}
			rest := slices.Delete(slices.Clone(l), at, at+1)
			answers(t, "Drop", turned.Drop(f), api.OK)
			holds(t, left, l...)
			puts(t, turned, short(0))
			holds(t, turned, append(shorts(0), rest...)...)
			holds(t, left, l...)
			puts(t, left, short(3))
			holds(t, left, append(shorts(3), l...)...)
			holds(t, turned, append(shorts(0), rest...)...)
		}
	}
}

func TestCloneOfAClone(t *testing.T) {
	a := made(t, 2, short(5))
	b := a.Clone()
	c := b.Clone()
	puts(t, b, short(4))
	puts(t, c, short(6))
	answers(t, "Drop", a.Drop(short(5)), api.OK)
	holds(t, a)
	holds(t, b, shorts(4, 5)...)
	holds(t, c, shorts(5, 6)...)
	for _, q := range []*Queue{b, c} {
		answers(t, "Put of a full one", q.Put(short(1)), api.ErrFull)
	}
}

// TestCloneKnowsWhatCameEarlier has frames alike on the bus put in on both sides of Clone.
func TestCloneKnowsWhatCameEarlier(t *testing.T) {
	l := alike()
	q := made(t, 16, l[:3]...)
	c := q.Clone()
	puts(t, c, l[3:]...)
	holds(t, c, l...)
	puts(t, q, l[5], l[4])
	holds(t, q, l[0], l[1], l[2], l[5], l[4])
}

// P9.3

func TestOrderOfEachArrangement(t *testing.T) {
	l := []api.Frame{short(4), carrying(short(5), 255), remote(short(5), 2), long(5 << 18), remote(long(5<<18), 0), short(6)}
	for n := range len(l) + 1 {
		for _, row := range arrangements(l[:n]) {
			holds(t, made(t, max(n, 1), row...), l[:n]...)
		}
	}
}

func TestOrderOfSixteen(t *testing.T) {
	want := ranked()
	backward := slices.Clone(want)
	slices.Reverse(backward)
	holds(t, made(t, 16, want...), want...)
	holds(t, made(t, 16, backward...), want...)
	for seed := range 300 {
		holds(t, made(t, 16, mixed(want, seed)...), want...)
	}
}

func TestAlikeComeAsTheyCame(t *testing.T) {
	for _, row := range arrangements(alike()[:6]) {
		holds(t, made(t, 16, row...), row...)
	}
	remotes := []api.Frame{remote(long(7), 8), remote(long(7), 0), remote(long(7), 3), remote(long(7), 1)}
	for _, row := range arrangements(remotes) {
		holds(t, made(t, 4, row...), row...)
	}
}

// TestAlikeAmongOthers has three that are alike in each order, and others put in ahead of them, between them and behind them.
func TestAlikeAmongOthers(t *testing.T) {
	ahead := []api.Frame{short(4), short(4), long(3 << 18)}
	behind := []api.Frame{remote(short(5), 0), long(5 << 18), short(6)}
	others := append(slices.Clone(ahead), behind...)
	for _, row := range arrangements(alike()[:3]) {
		want := &paper{most: 16, came: append(slices.Clone(others), row...)}
		for seed := range 100 {
			l := interleaved(mixed(others, seed), row, seed)
			q := made(t, 9, l...)
			holds(t, q, want.inOrder()...)
			if got := q.All(); !slices.Equal(got[3:6], row) {
				t.Fatalf("of %+v are %+v, not %+v", l, got[3:6], row)
			}
		}
	}
}

// interleaved are the frames of two rows, each row in its order.
func interleaved(a, b []api.Frame, seed int) []api.Frame {
	var l []api.Frame
	for len(a) > 0 && len(b) > 0 {
		seed = (seed*1103515245 + 12345) % (1 << 31)
		if seed>>8%3 == 0 {
			l, b = append(l, b[0]), b[1:]
		} else {
			l, a = append(l, a[0]), a[1:]
		}
	}
	return append(append(l, a...), b...)
}

// TestDroppedAndPutInAgainComesLast has one of those that are alike dropped, and put in again behind the others.
func TestDroppedAndPutInAgainComesLast(t *testing.T) {
	l := alike()
	for at := range l {
		q := made(t, len(l)+2, append(shorts(9, 1), l...)...)
		answers(t, "Drop", q.Drop(l[at]), api.OK)
		puts(t, q, l[at])
		want := append(shorts(1), slices.Delete(slices.Clone(l), at, at+1)...)
		holds(t, q, append(want, l[at], short(9))...)
	}
}

// TestPutAndDropLeaveTheOthers has each frame put into a queue and dropped again.
func TestPutAndDropLeaveTheOthers(t *testing.T) {
	l := ranked()
	for at, f := range l {
		others := slices.Delete(slices.Clone(l), at, at+1)
		q := made(t, 16, mixed(others, at)...)
		puts(t, q, f)
		holds(t, q, l...)
		answers(t, "Drop", q.Drop(f), api.OK)
		holds(t, q, others...)
	}
}

// TestEachWay goes through all rows of a few calls, on a queue and on paper.
func TestEachWay(t *testing.T) {
	l := []api.Frame{carrying(short(5), 2), carrying(short(5), 1), remote(short(5), 1)}
	for most := 1; most <= 4; most++ {
		goOn(t, made(t, most), &paper{most: most}, l, 6)
	}
}

// goOn has each call on a clone of its own, and so many calls more behind it.
func goOn(t *testing.T, q *Queue, p *paper, l []api.Frame, more int) {
	t.Helper()
	holds(t, q, p.inOrder()...)
	if more == 0 || t.Failed() {
		return
	}
	for _, f := range l {
		c, written := q.Clone(), &paper{p.most, slices.Clone(p.came)}
		answers(t, "Put", c.Put(f), written.put(f))
		goOn(t, c, written, l, more-1)
		c, written = q.Clone(), &paper{p.most, slices.Clone(p.came)}
		answers(t, "Drop", c.Drop(f), written.drop(f))
		goOn(t, c, written, l, more-1)
	}
	holds(t, q, p.inOrder()...)
}

// TestLongWays has long rows of calls on one queue and on paper, with frames of all kinds, some that may not be among them.
func TestLongWays(t *testing.T) {
	seed := uint32(7)
	next := func(n int) int {
		seed = seed*1664525 + 1013904223
		return int(seed>>16) % n
	}
	among := append(ranked(), alike()...)
	full, none := 0, 0
	for round := range 64 {
		most := 1 + round%16
		q, p := made(t, most), &paper{most: most}
		for range 300 {
			f := among[next(len(among))]
			switch {
			case next(20) == 0:
				answers(t, "Put of one that may not be", q.Put(wrong()[next(len(wrong()))]), api.ErrFrame)
			case next(20) == 0:
				q, p = q.Clone(), &paper{most, slices.Clone(p.came)}
			case next(7) < 4:
				want := p.put(f)
				answers(t, "Put", q.Put(f), want)
				if want == api.ErrFull {
					full++
				}
			case next(4) > 0 && len(p.came) > 0:
				f = p.came[next(len(p.came))]
				answers(t, "Drop", q.Drop(f), p.drop(f))
			default:
				want := p.drop(f)
				answers(t, "Drop", q.Drop(f), want)
				if want == api.ErrNone {
					none++
				}
			}
			holds(t, q, p.inOrder()...)
			if t.Failed() {
				return
			}
		}
	}
	if full < 100 || none < 100 {
		t.Errorf("only %d were refused as full, and %d as not in", full, none)
	}
}

// TestSameCallsSameAnswers has the same calls on two queues.
func TestSameCallsSameAnswers(t *testing.T) {
	l := append(mixed(ranked(), 3)[:9], alike()...)
	a, b := made(t, 16, l...), made(t, 16, l...)
	answers(t, "Drop", a.Drop(l[4]), b.Drop(l[4]))
	holds(t, a, b.All()...)
}

// The chapter's examples.
func TestExamples(t *testing.T) {
	q := made(t, 16, shorts(5, 3, 4)...)
	holds(t, q, shorts(3, 4, 5)...)
	answers(t, "Drop", q.Drop(short(4)), api.OK)
	holds(t, q, shorts(3, 5)...)
	q = made(t, 1, short(5))
	answers(t, "a second Put", q.Put(short(3)), api.ErrFull)
	holds(t, q, short(5))
}
