package count

import (
	"fmt"
	"math"
	"testing"

	"magneto/api"
)

// gone is one that is off, with what it has received.
func gone(rec int) Counts { return Counts{TEC: 256, REC: rec, Off: true} }

// edges are numbers at which something may change, those that may not be among them.
var edges = []int{
	math.MinInt, math.MinInt + 1, math.MinInt32, -256, -8, -2, -1,
	0, 1, 2, 7, 8, 119, 120, 126, 127, 128, 129, 246, 247, 248, 249, 254, 255,
	256, 257, 263, 264, 512, math.MaxInt32, 1 << 32, 1<<32 + 5, math.MaxInt - 8, math.MaxInt - 7, math.MaxInt - 1, math.MaxInt,
}

// noWeights are numbers that are no weights.
var noWeights = []int{math.MinInt, math.MinInt + 1, -256, -8, -1, 0, 2, 3, 4, 5, 6, 7, 9, 16, 128, 255, 256, 257, 264, 1<<32 + 1, 1<<32 + 8, math.MaxInt - 1, math.MaxInt}

// grid are counts of each two edges, with Off and without.
func grid() []Counts {
	var l []Counts
	for _, tec := range edges {
		for _, rec := range edges {
			l = append(l, Counts{TEC: tec, REC: rec}, Counts{TEC: tec, REC: rec, Off: true})
		}
	}
	return l
}

// running are all counts that run.
func running() []Counts {
	var l []Counts
	for tec := range 256 {
		for rec := range 256 {
			l = append(l, Counts{TEC: tec, REC: rec})
		}
	}
	return l
}

// off are all counts that are right, and off.
func off() []Counts {
	var l []Counts
	for rec := range 256 {
		l = append(l, gone(rec))
	}
	return l
}

// right tells whether counts are right, by looking for them among all that are.
func right() func(c Counts) bool {
	known := map[Counts]bool{}
	for _, l := range [][]Counts{running(), off()} {
		for _, c := range l {
			known[c] = true
		}
	}
	return func(c Counts) bool { return known[c] }
}

// act is something that comes, and its name.
type act struct {
	name string
	do   func(c Counts) Counts
}

// weighed is an error of a weight as one receives.
func weighed(weight int) act {
	return act{fmt.Sprintf("Rx of %d", weight), func(c Counts) Counts { return Rx(c, weight) }}
}

// acts are all that may come, but for Back.
func acts() []act {
	return []act{{"Sent", Sent}, {"Received", Received}, {"Tx", Tx}, weighed(1), weighed(8)}
}

// want holds what an act makes of counts against others.
func want(t *testing.T, a act, c, next Counts) {
	t.Helper()
	if got := a.do(c); got != next {
		t.Errorf("%s of %+v = %+v, not %+v", a.name, c, got, next)
	}
}

// P8.1

func TestCheckNamed(t *testing.T) {
	for _, x := range []struct {
		c Counts
		e api.Errno
	}{
		{Counts{}, api.OK}, {Counts{TEC: 1}, api.OK}, {Counts{REC: 1}, api.OK},
		{Counts{TEC: 127, REC: 127}, api.OK}, {Counts{TEC: 128, REC: 128}, api.OK}, {Counts{TEC: 254, REC: 254}, api.OK},
		{Counts{TEC: 255}, api.OK}, {Counts{REC: 255}, api.OK}, {Counts{TEC: 255, REC: 255}, api.OK},
		{Counts{TEC: -1}, api.ErrRange}, {Counts{REC: -1}, api.ErrRange}, {Counts{TEC: -1, REC: -1}, api.ErrRange},
		{Counts{TEC: 256}, api.ErrRange}, {Counts{REC: 256}, api.ErrRange}, {Counts{TEC: 257}, api.ErrRange}, {Counts{TEC: 256, REC: 256}, api.ErrRange},
		{gone(0), api.OK}, {gone(1), api.OK}, {gone(127), api.OK}, {gone(128), api.OK}, {gone(254), api.OK}, {gone(255), api.OK},
		{gone(-1), api.ErrRange}, {gone(256), api.ErrRange}, {gone(math.MinInt), api.ErrRange}, {gone(math.MaxInt), api.ErrRange},
		{Counts{Off: true}, api.ErrRange}, {Counts{TEC: 1, Off: true}, api.ErrRange}, {Counts{TEC: 255, Off: true}, api.ErrRange}, {Counts{TEC: 257, Off: true}, api.ErrRange}, {Counts{TEC: -256, Off: true}, api.ErrRange},
		{Counts{TEC: math.MaxInt}, api.ErrRange}, {Counts{TEC: math.MinInt}, api.ErrRange}, {Counts{REC: math.MaxInt}, api.ErrRange}, {Counts{REC: math.MinInt}, api.ErrRange},
		{Counts{TEC: math.MaxInt, Off: true}, api.ErrRange}, {Counts{TEC: math.MinInt, Off: true}, api.ErrRange},
	} {
		if e := Check(x.c); e != x.e {
			t.Errorf("Check(%+v) = %v, not %v", x.c, e, x.e)
		}
	}
}

func TestCheckAll(t *testing.T) {
	is := right()
	held := func(c Counts) {
		e := api.OK
		if !is(c) {
			e = api.ErrRange
		}
		if got := Check(c); got != e {
			t.Fatalf("Check(%+v) = %v, not %v", c, got, e)
		}
	}
	for _, c := range grid() {
		held(c)
	}
	for tec := -3; tec < 300; tec++ {
		for rec := -3; rec < 300; rec++ {
			held(Counts{TEC: tec, REC: rec})
			held(Counts{TEC: tec, REC: rec, Off: true})
		}
	}
}

func TestStateNamed(t *testing.T) {
	for _, x := range []struct {
		c     Counts
		state int
	}{
		{Counts{}, api.Active}, {Counts{TEC: 1, REC: 1}, api.Active}, {Counts{TEC: 127, REC: 127}, api.Active},
		{Counts{TEC: 128}, api.Passive}, {Counts{REC: 128}, api.Passive}, {Counts{TEC: 128, REC: 128}, api.Passive}, {Counts{TEC: 127, REC: 128}, api.Passive}, {Counts{TEC: 128, REC: 127}, api.Passive},
		{Counts{TEC: 254}, api.Passive}, {Counts{REC: 254}, api.Passive}, {Counts{TEC: 255, REC: 255}, api.Passive},
		{gone(0), api.Off}, {gone(127), api.Off}, {gone(128), api.Off}, {gone(255), api.Off},
		// Those that are not right have a state, too.
		{Counts{TEC: 256}, api.Passive}, {Counts{REC: 256}, api.Passive}, {Counts{TEC: math.MaxInt}, api.Passive}, {Counts{REC: math.MaxInt}, api.Passive},
		{Counts{TEC: -1}, api.Active}, {Counts{REC: -1}, api.Active}, {Counts{TEC: math.MinInt, REC: math.MinInt}, api.Active},
		{Counts{TEC: math.MinInt, REC: 128}, api.Passive}, {Counts{TEC: 128, REC: math.MinInt}, api.Passive}, {Counts{TEC: math.MaxInt, REC: math.MaxInt}, api.Passive},
		{Counts{Off: true}, api.Off}, {Counts{TEC: 5, Off: true}, api.Off}, {Counts{TEC: 128, REC: 128, Off: true}, api.Off}, {Counts{TEC: math.MinInt, REC: math.MaxInt, Off: true}, api.Off}, {gone(-1), api.Off},
	} {
		if s := State(x.c); s != x.state {
			t.Errorf("State(%+v) = %d, not %d", x.c, s, x.state)
		}
	}
}

func TestStateAll(t *testing.T) {
	for _, c := range append(append(grid(), running()...), off()...) {
		state := 0
		if c.TEC >= 128 || c.REC >= 128 {
			state = 1
		}
		if c.Off {
			state = 2
		}
		if s := State(c); s != state {
			t.Fatalf("State(%+v) = %d, not %d", c, s, state)
		}
	}
}

// P8.2

func TestSentNamed(t *testing.T) {
	sent := act{"Sent", Sent}
	for _, x := range [][2]int{{0, 0}, {1, 0}, {2, 1}, {8, 7}, {127, 126}, {128, 127}, {254, 253}, {255, 254}} {
		for _, rec := range []int{0, 1, 127, 128, 255} {
			want(t, sent, Counts{TEC: x[0], REC: rec}, Counts{TEC: x[1], REC: rec})
		}
	}
}

func TestReceivedNamed(t *testing.T) {
	received := act{"Received", Received}
	for _, x := range [][2]int{{0, 0}, {1, 0}, {2, 1}, {118, 117}, {119, 118}, {120, 119}, {126, 125}, {127, 126}, {128, 119}, {129, 119}, {200, 119}, {254, 119}, {255, 119}} {
		for _, tec := range []int{0, 1, 127, 128, 255} {
			want(t, received, Counts{TEC: tec, REC: x[0]}, Counts{TEC: tec, REC: x[1]})
		}
	}
}

func TestTxNamed(t *testing.T) {
	tx := act{"Tx", Tx}
	for _, x := range [][2]int{{0, 8}, {1, 9}, {119, 127}, {120, 128}, {127, 135}, {128, 136}, {246, 254}, {247, 255}} {
		for _, rec := range []int{0, 1, 127, 128, 255} {
			want(t, tx, Counts{TEC: x[0], REC: rec}, Counts{TEC: x[1], REC: rec})
		}
	}
	for tec := 248; tec <= 255; tec++ {
		for _, rec := range []int{0, 1, 127, 128, 255} {
			want(t, tx, Counts{TEC: tec, REC: rec}, gone(rec))
		}
	}
}

func TestRxNamed(t *testing.T) {
	for _, x := range []struct{ rec, light, heavy int }{
		{0, 1, 8}, {1, 2, 9}, {119, 120, 127}, {120, 121, 128}, {126, 127, 134}, {127, 128, 135}, {128, 129, 136},
		{246, 247, 254}, {247, 248, 255}, {248, 249, 255}, {249, 250, 255}, {250, 251, 255}, {254, 255, 255}, {255, 255, 255},
	} {
		for _, tec := range []int{0, 1, 127, 128, 255} {
			c := Counts{TEC: tec, REC: x.rec}
			want(t, weighed(1), c, Counts{TEC: tec, REC: x.light})
			want(t, weighed(8), c, Counts{TEC: tec, REC: x.heavy})
		}
	}
}

func TestRxOfNoWeight(t *testing.T) {
	for _, weight := range noWeights {
		for _, c := range grid() {
			want(t, weighed(weight), c, c)
		}
	}
	for weight := -300; weight <= 300; weight++ {
		if weight == 1 || weight == 8 {
			continue
		}
		for _, c := range []Counts{{}, {REC: 5}, {TEC: 255, REC: 250}, {REC: 255}, gone(3)} {
			want(t, weighed(weight), c, c)
		}
	}
}

// TestWhatComesToAll has each act at all counts that run, against rows that are counted out beforehand.
func TestWhatComesToAll(t *testing.T) {
	var sent, received, light, heavy [256]int
	for n := range 256 {
		sent[n], received[n], light[n], heavy[n] = n-1, n-1, n+1, n+8
		if n > 127 {
			received[n] = 119
		}
		if n > 247 {
			heavy[n] = 255
		}
	}
	sent[0], received[0], light[255] = 0, 0, 255
	for _, c := range running() {
		tx := Counts{TEC: c.TEC + 8, REC: c.REC}
		if c.TEC > 247 {
			tx = gone(c.REC)
		}
		for i, next := range []Counts{
			{TEC: sent[c.TEC], REC: c.REC}, {TEC: c.TEC, REC: received[c.REC]}, tx,
			{TEC: c.TEC, REC: light[c.REC]}, {TEC: c.TEC, REC: heavy[c.REC]},
		} {
			want(t, acts()[i], c, next)
		}
		if t.Failed() {
			return
		}
	}
}

func TestWhatComesToWrongOnes(t *testing.T) {
	is := right()
	wrong := 0
	for _, c := range grid() {
		if is(c) && !c.Off {
			continue
		}
		wrong++
		for _, a := range acts() {
			want(t, a, c, c)
		}
	}
	if wrong < 1000 {
		t.Errorf("only %d that do not run have been tried", wrong)
	}
	for _, c := range []Counts{{TEC: -1}, {REC: -1}, {TEC: 256}, {REC: 256}, {TEC: 5, Off: true}, {Off: true}, {TEC: 257, Off: true}, {TEC: 200, REC: 256}, {TEC: 256, REC: 200}, gone(-1), gone(256)} {
		for _, a := range acts() {
			want(t, a, c, c)
		}
	}
}

func TestWhatComesToOnesThatAreOff(t *testing.T) {
	for _, c := range off() {
		for _, a := range acts() {
			want(t, a, c, c)
		}
	}
}

// P8.3

func TestBack(t *testing.T) {
	for _, l := range [][]Counts{grid(), running(), off()} {
		for _, c := range l {
			if got := Back(c); got != (Counts{}) {
				t.Fatalf("Back(%+v) = %+v", c, got)
			}
		}
	}
	for _, c := range []Counts{{}, {TEC: 5, REC: 7}, gone(0), gone(255), {TEC: -1}, {TEC: 256}, {Off: true}, {TEC: math.MaxInt, REC: math.MinInt, Off: true}} {
		want(t, act{"Back", Back}, c, Counts{})
	}
}

// P8.4

func TestRightOnesStayRight(t *testing.T) {
	is := right()
	for _, l := range [][]Counts{running(), off()} {
		for _, c := range l {
			for _, a := range append(acts(), weighed(2), weighed(math.MinInt), weighed(math.MaxInt), act{"Back", Back}) {
				if got := a.do(c); !is(got) || Check(got) != api.OK {
					t.Fatalf("%s of %+v = %+v, that is not right", a.name, c, got)
				}
			}
		}
	}
}

func TestOffComesBackByBackAlone(t *testing.T) {
	c := Counts{TEC: 248, REC: 130}
	c = Tx(c)
	if c != gone(130) || State(c) != api.Off {
		t.Fatalf("it is %+v", c)
	}
	for range 300 {
		for _, a := range append(acts(), weighed(0), weighed(-8)) {
			c = a.do(c)
			if c != gone(130) || State(c) != api.Off || Check(c) != api.OK {
				t.Fatalf("by %s it is %+v", a.name, c)
			}
		}
	}
	if c = Back(c); c != (Counts{}) || State(c) != api.Active || Check(c) != api.OK {
		t.Fatalf("it comes back as %+v", c)
	}
	want(t, act{"Tx", Tx}, c, Counts{TEC: 8})
	want(t, weighed(8), c, Counts{REC: 8})
}

func TestHowManyOfTx(t *testing.T) {
	c := Counts{}
	for n := 1; n <= 40; n++ {
		c = Tx(c)
		state := api.Active
		switch {
		case n >= 32:
			state = api.Off
		case n >= 16:
			state = api.Passive
		}
		if State(c) != state || c.REC != 0 || c.TEC != min(8*n, 256) || c.Off != (n >= 32) || Check(c) != api.OK {
			t.Errorf("behind %d of Tx it is %+v, %d", n, c, State(c))
		}
	}
}

// TestNoLessOfTx mixes what comes: of less than 16 of Tx none is passive by TEC, of less than 32 none is off.
func TestNoLessOfTx(t *testing.T) {
	seed := uint32(7)
	next := func(n int) int {
		seed = seed*1664525 + 1013904223
		return int(seed>>16) % n
	}
	passive, offs := 0, 0
	for range 3000 {
		c, errors, steps := Counts{}, 0, 20+next(80)
		for range steps {
			a := acts()[[]int{2, 2, 2, 2, 0, 1, 3, 4}[next(8)]]
			if a.name == "Tx" && !c.Off {
				errors++
			}
			c = a.do(c)
			if Check(c) != api.OK || c.TEC > 127 && errors < 16 || c.Off && errors < 32 {
				t.Fatalf("behind %d of Tx it is %+v", errors, c)
			}
		}
		switch State(c) {
		case api.Passive:
			passive++
		case api.Off:
			offs++
		}
	}
	if passive < 100 || offs < 100 {
		t.Errorf("only %d became passive, and %d off", passive, offs)
	}
}

func TestOneCountIsTurnedAlone(t *testing.T) {
	for _, l := range [][]Counts{grid(), running(), off()} {
		for _, c := range l {
			for _, a := range []act{{"Sent", Sent}, {"Tx", Tx}} {
				if got := a.do(c); got.REC != c.REC {
					t.Fatalf("%s of %+v = %+v turns REC", a.name, c, got)
				}
			}
			for _, a := range []act{{"Received", Received}, weighed(1), weighed(8), weighed(2)} {
				if got := a.do(c); got.TEC != c.TEC || got.Off != c.Off {
					t.Fatalf("%s of %+v = %+v turns TEC, or Off", a.name, c, got)
				}
			}
			if got := Sent(c); got.Off != c.Off {
				t.Fatalf("Sent(%+v) = %+v turns Off", c, got)
			}
		}
	}
}

// The chapter's examples.
func TestExamples(t *testing.T) {
	want(t, act{"Tx", Tx}, Counts{}, Counts{TEC: 8})
	want(t, act{"Received", Received}, Counts{REC: 200}, Counts{REC: 119})
	want(t, act{"Received", Received}, Counts{REC: 127}, Counts{REC: 126})
	want(t, weighed(8), Counts{REC: 250}, Counts{REC: 255})
	want(t, act{"Tx", Tx}, Counts{TEC: 248}, gone(0))
}

// R3

func TestCallsKeepNothing(t *testing.T) {
	for _, ahead := range grid() {
		for _, a := range append(acts(), weighed(3), act{"Back", Back}) {
			a.do(ahead)
		}
		want(t, act{"Sent", Sent}, Counts{TEC: 9, REC: 3}, Counts{TEC: 8, REC: 3})
		want(t, act{"Received", Received}, Counts{TEC: 9, REC: 3}, Counts{TEC: 9, REC: 2})
		want(t, act{"Tx", Tx}, Counts{TEC: 9, REC: 3}, Counts{TEC: 17, REC: 3})
		want(t, weighed(8), Counts{TEC: 9, REC: 3}, Counts{TEC: 9, REC: 11})
	}
}
