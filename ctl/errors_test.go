package ctl_test

import (
	"fmt"
	"slices"
	"strings"
	"testing"

	"magneto/api"
	"magneto/ctl"
)

// P10.3: errors, flags, and what comes behind them.

// flagged is the state of a node at the first level of an error's flag.
func flagged(passive bool, role string, tec, rec, queued int) string {
	if passive {
		return fmt.Sprintf("PassiveFlag %s %d/%d q%d d1", role, tec, rec, queued)
	}
	return fmt.Sprintf("ErrorFlag %s %d/%d q%d d0", role, tec, rec, queued)
}

// TestEachLevelTurnedOfAReceiver has each level of frames turned that has to be as it is.
func TestEachLevelTurnedOfAReceiver(t *testing.T) {
	for _, f := range kinds() {
		row := onBus(f, true)
		for at := 1; at < len(row); at++ {
			s := read(row[:at])
			want := map[string]string{delim: "FormError", slot: "BitError", ackDelim: "FormError", end: "FormError"}[s.place]
			if s.added {
				want = "StuffError"
			}
			if want == "" || s.place == end && s.left == 1 {
				continue
			}
			for _, rec := range []int{0, 127, 128, 255} {
				n := made(t, 0, rec)
				sees(t, n, turned(row, at)[:at+1], fmt.Sprint(at, " ", want))
				is(t, n, flagged(rec > 127, "rx", 0, min(rec+1, 255), 0))
			}
		}
	}
}

// TestEachLevelTurnedOfASender has each level turned of frames that are sent: active, passive, and by which the node goes off.
func TestEachLevelTurnedOfASender(t *testing.T) {
	for _, f := range kinds() {
		row := onBus(f, true)
		for at := range row {
			s := read(row[:at])
			kind, adds := "BitError", 8
			switch {
			case s.place == arb && row[at] == '1' && s.added:
				kind, adds = "StuffError", 0
			case s.place == arb && row[at] == '1':
				continue // it is lost
			case s.place == slot:
				continue // nobody hears it
			}
			for _, tec := range []int{0, 120, 127, 128, 247} {
				n := made(t, tec, 0, f)
				sees(t, n, turned(row, at)[:at+1], fmt.Sprint(at, " ", kind))
				is(t, n, flagged(tec > 127, "tx", tec+adds, 0, 1))
			}
			n := made(t, 248, 0, f)
			want := []string{fmt.Sprint(at, " ", kind)}
			if adds > 0 {
				want = append(want, fmt.Sprint(at, " GoneOff"))
			}
			sees(t, n, turned(row, at)[:at+1], want...)
			if adds > 0 {
				is(t, n, "BusOff tx 256/0 off q1 d1")
			}
		}
	}
}

// TestPassiveByReceiving has one that is passive by REC alone err as it sends.
func TestPassiveByReceiving(t *testing.T) {
	f := short(5)
	n := made(t, 0, 128, f)
	sees(t, n, "1", "0 BitError")
	is(t, n, "PassiveFlag tx 8/128 q1 d1")
	n = made(t, 0, 128, f)
	sees(t, n, upToSlot(f)+"1", fmt.Sprint(len(upToSlot(f)), " AckError"))
	is(t, n, "PassiveFlag tx 0/128 q1 d1")
	n = made(t, 128, 0)
	sees(t, n, "000000", "5 StuffError")
	is(t, n, "PassiveFlag rx 128/1 q0 d1")
}

// TestLastOfEnd has a level 0 as the last one of End: of the sender an error, of one that has received the frame an overload.
func TestLastOfEnd(t *testing.T) {
	f := short(0x123, 7)
	row := onBus(f, true)
	last := row[:len(row)-1] + "0"
	n := joined(t)
	sees(t, n, last, fmt.Sprint(len(row)-2, " Received 123#07"), fmt.Sprint(len(row)-1, " Overload"))
	is(t, n, "OverFlag rx 0/0 q0 d0")
	sees(t, n, "000000 11111111 111")
	is(t, n, "Idle rx 0/0 q0 d1")
	n = joined(t, f)
	sees(t, n, last, fmt.Sprint(len(row)-1, " BitError"))
	is(t, n, "ErrorFlag tx 8/0 q1 d0")
	// It was not sent: it is, once more.
	sees(t, n, "000000 11111111 111"+row, fmt.Sprint(17+len(row)-1, " Sent 123#07"))
	is(t, n, "Pause tx 7/0 q0 d1")
}

// TestSumNotRight has levels of the frame turned ahead of stuffing: by AckDelim's that is told, whatever the slot is, if that is not 0.
func TestSumNotRight(t *testing.T) {
	own := summed(head(short(0x2A5, 0x5A, 0xA5)))
	for at := 1; at < len(own); at++ {
		if at == 12 || at == 13 || at >= 15 && at < 19 { // these tell which fields there are
			continue
		}
		row := stuffed(turned(own, at))
		for _, slot := range []string{"0", "1"} {
			n := joined(t)
			sees(t, n, row+"1")
			is(t, n, "InFrame rx 0/0 q0 d1")
			sees(t, n, slot)
			is(t, n, "InFrame rx 0/0 q0 d1")
			other := n.Clone()
			sees(t, n, "1", "0 SumError")
			is(t, n, "ErrorFlag rx 0/1 q0 d0")
			sees(t, other, "0", "0 FormError")
			is(t, other, "ErrorFlag rx 0/1 q0 d0")
		}
		n := joined(t)
		sees(t, n, row+"0", fmt.Sprint(len(row), " FormError"))
		is(t, n, "ErrorFlag rx 0/1 q0 d0")
		n = made(t, 0, 128)
		sees(t, n, row+"101", fmt.Sprint(len(row)+2, " SumError"))
		is(t, n, "PassiveFlag rx 0/129 q0 d1")
	}
}

// TestOnesInFlags has a level 1 at each place of ErrorFlag, and of OverFlag, and at all of them.
func TestOnesInFlags(t *testing.T) {
	f := short(5)
	row := onBus(f, true)
	for _, x := range []struct {
		frames []api.Frame
		saw    string
		tx     bool
	}{{nil, "000000", false}, {[]api.Frame{f}, "1", true}, {nil, row + "0", false}, {[]api.Frame{f}, row + "0", true}} {
		for ones := range 64 {
			n := joined(t, x.frames...)
			for i := range x.saw {
				step(t, n, x.saw[i])
			}
			was := n.Look()
			if n.Look().Mode != ctl.ErrorFlag && n.Look().Mode != ctl.OverFlag {
				t.Fatal(state(n))
			}
			levels, want, adds := fmt.Sprintf("%06b", ones), []string(nil), 0
			for i := range levels {
				if levels[i] == '1' {
					want = append(want, fmt.Sprint(i, " BitError"))
					adds += 8
				}
				if n.Drive() != 0 {
					t.Errorf("it drives 1 within a flag")
				}
			}
			sees(t, n, levels, want...)
			was.Mode = ctl.Waiting
			if x.tx {
				was.Counts.TEC += adds
			} else {
				was.Counts.REC += adds
			}
			if n.Look() != was || n.Drive() != 1 {
				t.Errorf("behind %s: %s", levels, state(n))
			}
		}
	}
}

// TestFlagGoesOnAsPassive has a flag of one that becomes passive on the way.
func TestFlagGoesOnAsPassive(t *testing.T) {
	n := made(t, 100, 0, short(5))
	sees(t, n, "1", "0 BitError")
	is(t, n, "ErrorFlag tx 108/0 q1 d0")
	sees(t, n, "1110", "0 BitError", "1 BitError", "2 BitError")
	is(t, n, "ErrorFlag tx 132/0 q1 d0")
	sees(t, n, "01", "1 BitError")
	is(t, n, "Waiting tx 140/0 q1 d1")
	// And of one that is active again.
	n = made(t, 0, 127)
	sees(t, n, "000000", "5 StuffError")
	is(t, n, "ErrorFlag rx 0/128 q0 d0")
	sees(t, n, "000000 0")
	is(t, n, "Waiting rx 0/136 q0 d1")
}

// TestOffWithinAFlag has the count of sending come to 256 at each place of an OverFlag: what comes behind is no more of a flag.
func TestOffWithinAFlag(t *testing.T) {
	f := short(5)
	row := onBus(f, true)
	for ones := 1; ones <= 6; ones++ {
		for at := 0; at+ones <= 6; at++ {
			// It is sent with one less, and off by as many as there are ones.
			n := made(t, 256-8*ones+1, 0, f)
			sees(t, n, row+"0", fmt.Sprint(len(row)-1, " Sent 005#"), fmt.Sprint(len(row), " Overload"))
			is(t, n, fmt.Sprintf("OverFlag tx %d/0 q0 d0", 256-8*ones))
			sees(t, n, strings.Repeat("0", at))
			var want []string
			for i := range ones {
				want = append(want, fmt.Sprint(i, " BitError"))
			}
			want = append(want, fmt.Sprint(ones-1, " GoneOff"))
			sees(t, n, strings.Repeat("1", ones), want...)
			is(t, n, "BusOff tx 256/0 off q0 d1")
			sees(t, n, strings.Repeat("1", 50)+strings.Repeat("0", 50))
			is(t, n, "BusOff tx 256/0 off q0 d1")
		}
	}
}

// TestPassiveFlag has a flag turn at each place, and end by six levels alike alone.
func TestPassiveFlag(t *testing.T) {
	for _, levels := range []string{
		"000000", "111111", "0111111", "1000000", "00111111", "11000000", "000111111", "111000000", "0000111111", "1111000000", "00000111111", "11111000000",
		"010101010111111", "101010101000000", "00000111110000011111000000", "1111100000111110000010111111",
	} {
		for _, x := range []struct {
			tec, rec int
			frames   []api.Frame
			saw      string
		}{{0, 128, nil, "000000"}, {128, 0, nil, "000000"}, {128, 0, []api.Frame{short(5)}, "1"}, {0, 128, []api.Frame{short(5)}, "1"}, {128, 0, []api.Frame{short(5)}, upToSlot(short(5)) + "1"}} {
			n := made(t, x.tec, x.rec, x.frames...)
			for i := range x.saw {
				step(t, n, x.saw[i])
			}
			for i := range levels {
				if n.Look().Mode != ctl.PassiveFlag || n.Drive() != 1 {
					t.Errorf("%s: at %d the node is %s", levels, i, state(n))
				}
				sees(t, n, levels[i:i+1])
			}
			if n.Look().Mode != ctl.Waiting {
				t.Errorf("behind %s the node is %s", levels, state(n))
			}
		}
	}
}

// TestPassiveFlagBeginsAnew has levels ahead of a flag that are not of it.
func TestPassiveFlagBeginsAnew(t *testing.T) {
	n := made(t, 0, 128)
	sees(t, n, "000000", "5 StuffError")
	sees(t, n, "00000")
	is(t, n, "PassiveFlag rx 0/129 q0 d1")
	sees(t, n, "0")
	is(t, n, "Waiting rx 0/129 q0 d1")
	sees(t, n, "111")
	sees(t, n, "0", "0 FormError")
	sees(t, n, "11111")
	is(t, n, "PassiveFlag rx 0/130 q0 d1")
	sees(t, n, "1")
	is(t, n, "Waiting rx 0/130 q0 d1")
}

// unheard is a passive sender that nobody acknowledged, at its flag's first level.
func unheard(t *testing.T, tec int) *ctl.Node {
	t.Helper()
	f := short(5)
	n := made(t, tec, 0, f)
	sees(t, n, upToSlot(f)+"1", fmt.Sprint(len(upToSlot(f)), " AckError"))
	is(t, n, fmt.Sprintf("PassiveFlag tx %d/0 q1 d1", tec))
	return n
}

// TestOwed has the first 0 within the flag, at each place of it, count what is owed, once.
func TestOwed(t *testing.T) {
	for at := range 6 {
		n := unheard(t, 128)
		sees(t, n, strings.Repeat("1", at))
		is(t, n, "PassiveFlag tx 128/0 q1 d1")
		sees(t, n, "0")
		is(t, n, "PassiveFlag tx 136/0 q1 d1")
		sees(t, n, "0000")
		is(t, n, "PassiveFlag tx 136/0 q1 d1")
		other := n.Clone()
		sees(t, n, "0")
		is(t, n, "Waiting tx 136/0 q1 d1")
		sees(t, other, "10100000")
		is(t, other, "PassiveFlag tx 136/0 q1 d1")
		sees(t, other, "0")
		is(t, other, "Waiting tx 136/0 q1 d1")
	}
	// By six levels 1 it is owed no more: neither by a 0 behind the flag, nor in another flag.
	n := unheard(t, 128)
	sees(t, n, "111111")
	is(t, n, "Waiting tx 128/0 q1 d1")
	sees(t, n, "0")
	is(t, n, "Waiting tx 128/0 q1 d1")
	sees(t, n, "1")
	sees(t, n, "0", "0 FormError")
	is(t, n, "PassiveFlag tx 136/0 q1 d1")
	sees(t, n, "0")
	is(t, n, "PassiveFlag tx 136/0 q1 d1")
}

// TestOwedByAckErrorAlone has the flags of other errors, in which a 0 does not count: of errors that counted, and of one that did not.
func TestOwedByAckErrorAlone(t *testing.T) {
	f := short(0)
	for _, x := range []struct {
		saw, told string
		tec       int
	}{{"1", "0 BitError", 136}, {"01", "1 BitError", 136}, {"00000 0", "5 StuffError", 128}} {
		n := made(t, 128, 0, f)
		sees(t, n, x.saw, x.told)
		sees(t, n, "0101")
		is(t, n, fmt.Sprintf("PassiveFlag tx %d/0 q1 d1", x.tec))
		sees(t, n, "000000")
		is(t, n, fmt.Sprintf("Waiting tx %d/0 q1 d1", x.tec))
	}
}

// TestOffByWhatIsOwed has the count come to 256 by the first 0 of the flag, which is no flag any more.
func TestOffByWhatIsOwed(t *testing.T) {
	n := unheard(t, 247)
	sees(t, n, "10")
	is(t, n, "PassiveFlag tx 255/0 q1 d1")
	n = unheard(t, 248)
	sees(t, n, "11")
	is(t, n, "PassiveFlag tx 248/0 q1 d1")
	sees(t, n, "0", "0 GoneOff")
	is(t, n, "BusOff tx 256/0 off q1 d1")
	sees(t, n, "00000000000")
	is(t, n, "BusOff tx 256/0 off q1 d1")
	// As it is back, nothing is owed any more.
	sees(t, n, strings.Repeat(joins, 128), "1407 Back")
	is(t, n, "Idle rx 0/0 q1 d0")
}

// TestAckErrorOfAnActiveOne counts at once, also where it becomes passive by that.
func TestAckErrorOfAnActiveOne(t *testing.T) {
	f := short(5)
	for _, tec := range []int{0, 119, 120, 127} {
		n := made(t, tec, 0, f)
		sees(t, n, upToSlot(f)+"1", fmt.Sprint(len(upToSlot(f)), " AckError"))
		is(t, n, fmt.Sprintf("ErrorFlag tx %d/0 q1 d0", tec+8))
		sees(t, n, "000000")
		is(t, n, fmt.Sprintf("Waiting tx %d/0 q1 d1", tec+8))
	}
}

// TestWaiting has levels 0 behind each kind of flag: the first one counts behind an error's, if the node was not the sender, and each eighth one always.
func TestWaiting(t *testing.T) {
	f := short(5)
	row := onBus(f, true)
	for _, x := range []struct {
		tec, rec int
		frames   []api.Frame
		saw      string
		tx       bool
		first    int
	}{
		{0, 0, nil, "000000 000000", false, 8}, {0, 0, []api.Frame{f}, "1 000000", true, 0},
		{0, 128, nil, "000000 000000", false, 8}, {128, 0, nil, "000000 111111", false, 8}, {128, 0, []api.Frame{f}, "1 000000", true, 0}, {0, 128, []api.Frame{f}, "1 111111", true, 0},
		{0, 0, nil, row + "0 000000", false, 0}, {0, 0, []api.Frame{f}, row + "0 000000", true, 0}, {0, 128, nil, row + "0 000000", false, 0},
	} {
		n := made(t, x.tec, x.rec, x.frames...)
		for _, level := range strings.ReplaceAll(x.saw, " ", "") {
			step(t, n, byte(level))
		}
		was := n.Look()
		if was.Mode != ctl.Waiting || was.Tx != x.tx {
			t.Fatal(state(n))
		}
		for zeros := 1; zeros <= 40; zeros++ {
			sees(t, n, "0")
			want := was
			adds := zeros / 8 * 8
			if x.tx {
				want.Counts.TEC += adds
			} else {
				want.Counts.REC += adds + x.first
			}
			if n.Look() != want || n.Drive() != 1 {
				t.Errorf("%s, and %d levels 0: %s", x.saw, zeros, state(n))
			}
			// By a 1 there the row begins, of which seven are left.
			other := n.Clone()
			sees(t, other, "1111111")
			if other.Look().Mode != ctl.Closing || other.Look().Counts != want.Counts {
				t.Errorf("%s, %d levels 0, and seven 1: %s", x.saw, zeros, state(other))
			}
			sees(t, other, "1")
			if other.Look().Mode != ctl.Pause || other.Look().Counts != want.Counts {
				t.Errorf("%s, %d levels 0, and eight 1: %s", x.saw, zeros, state(other))
			}
		}
	}
}

// TestWaitingCountsAnew has levels 0 of another flag ahead.
func TestWaitingCountsAnew(t *testing.T) {
	n := joined(t)
	sees(t, n, "000000 000000 00000", "5 StuffError")
	is(t, n, "Waiting rx 0/9 q0 d1")
	sees(t, n, "10", "1 FormError")
	is(t, n, "ErrorFlag rx 0/10 q0 d0")
	sees(t, n, "000000 0000000")
	is(t, n, "Waiting rx 0/18 q0 d1")
	sees(t, n, "0")
	is(t, n, "Waiting rx 0/26 q0 d1")
	// Behind an overload that comes behind an error the first one does not count.
	sees(t, n, "1111111 0", "7 Overload")
	sees(t, n, "000000 0000000")
	is(t, n, "Waiting rx 0/26 q0 d1")
	sees(t, n, "0")
	is(t, n, "Waiting rx 0/34 q0 d1")
}

// TestOffInWaiting has the count come to 256 by the eighth level 0, and by the 16th one.
func TestOffInWaiting(t *testing.T) {
	n := made(t, 240, 0, short(5))
	sees(t, n, "1 000000 0000000", "0 BitError")
	is(t, n, "Waiting tx 248/0 q1 d1")
	sees(t, n, "0", "0 GoneOff")
	is(t, n, "BusOff tx 256/0 off q1 d1")
	n = made(t, 232, 0, short(5))
	sees(t, n, "1 111111 00000000 0000000", "0 BitError")
	is(t, n, "Waiting tx 248/0 q1 d1")
	sees(t, n, "0 0", "0 GoneOff")
	is(t, n, "BusOff tx 256/0 off q1 d1")
}

// TestClosing has a level 0 at each place of the eight.
func TestClosing(t *testing.T) {
	f := short(5)
	row := onBus(f, true)
	for _, x := range []struct {
		tec, rec int
		frames   []api.Frame
		saw      string
		flag     string // of a level 0 at an early place
		over     string // at the eighth one
		pause    string
	}{
		{0, 0, nil, "000000 000000", "ErrorFlag rx 0/2 q0 d0", "OverFlag rx 0/1 q0 d0", "Pause rx 0/1 q0 d1"},
		{0, 0, []api.Frame{f}, "1 000000", "ErrorFlag tx 16/0 q1 d0", "OverFlag tx 8/0 q1 d0", "Pause tx 8/0 q1 d1"},
		{0, 127, nil, "000000 000000", "PassiveFlag rx 0/129 q0 d1", "OverFlag rx 0/128 q0 d0", "Pause rx 0/128 q0 d1"},
		{112, 0, []api.Frame{f}, "1 000000", "ErrorFlag tx 128/0 q1 d0", "OverFlag tx 120/0 q1 d0", "Pause tx 120/0 q1 d1"},
		{120, 0, []api.Frame{f}, "1 000000", "PassiveFlag tx 136/0 q1 d1", "OverFlag tx 128/0 q1 d0", "Pause tx 128/0 q1 d1"},
		{239, 0, []api.Frame{f}, "1 000000", "PassiveFlag tx 255/0 q1 d1", "OverFlag tx 247/0 q1 d0", "Pause tx 247/0 q1 d1"},
		{240, 0, []api.Frame{f}, "1 000000", "BusOff tx 256/0 off q1 d1", "OverFlag tx 248/0 q1 d0", "Pause tx 248/0 q1 d1"},
		{0, 0, nil, row + "0 000000", "ErrorFlag rx 0/1 q0 d0", "OverFlag rx 0/0 q0 d0", "Pause rx 0/0 q0 d1"},
		{9, 0, []api.Frame{f}, row + "0 000000", "ErrorFlag tx 16/0 q0 d0", "OverFlag tx 8/0 q0 d0", "Pause tx 8/0 q0 d1"},
	} {
		for ones := 1; ones <= 7; ones++ {
			n := made(t, x.tec, x.rec, x.frames...)
			for _, level := range strings.ReplaceAll(x.saw, " ", "") {
				step(t, n, byte(level))
			}
			sees(t, n, strings.Repeat("1", ones))
			if n.Look().Mode != ctl.Closing || n.Drive() != 1 {
				t.Errorf("behind %d levels 1 the node is %s", ones, state(n))
			}
			want, told := x.flag, []string{"0 FormError"}
			if ones == 7 {
				want, told = x.over, []string{"0 Overload"}
			} else if strings.HasPrefix(x.flag, "BusOff") {
				told = append(told, "0 GoneOff")
			}
			other := n.Clone()
			sees(t, n, "0", told...)
			is(t, n, want)
			if ones == 7 {
				sees(t, other, "1")
				is(t, other, x.pause)
			}
		}
	}
}

// TestOverloadsInARow has many: they count nothing.
func TestOverloadsInARow(t *testing.T) {
	n := joined(t, short(5))
	row := onBus(short(5), true)
	sees(t, n, row, fmt.Sprint(len(row)-1, " Sent 005#"))
	sees(t, n, "0", "0 Overload")
	for range 50 {
		sees(t, n, "000000 1111111 0", "13 Overload")
		is(t, n, "OverFlag tx 0/0 q0 d0")
	}
	sees(t, n, "000000 11111111 10", "15 Overload")
	sees(t, n, "000000 11111111 110")
	is(t, n, "InFrame rx 0/0 q0 d1")
}

// pauses are nodes at the first level of Pause.
func pauses(t *testing.T, passive, tx bool, frames ...api.Frame) *ctl.Node {
	t.Helper()
	f := short(1)
	row := onBus(f, true)
	tec := 1
	if passive {
		tec = 129
	}
	if !tx {
		n := made(t, tec-1, 0)
		sees(t, n, row, fmt.Sprint(len(row)-2, " Received 001#"))
		puts(t, n, frames...)
		return n
	}
	n := made(t, tec, 0, f)
	sees(t, n, row, fmt.Sprint(len(row)-1, " Sent 001#"))
	puts(t, n, frames...)
	return n
}

// TestPause has a level 0 at each of the three, with a frame and without, of one that is passive and was the sender, and of others.
func TestPause(t *testing.T) {
	for _, passive := range []bool{false, true} {
		for _, tx := range []bool{false, true} {
			for _, frames := range [][]api.Frame{nil, {short(5)}} {
				tec, role, queued := 0, "rx", len(frames)
				if passive {
					tec = 128
				}
				if tx {
					role = "tx"
				}
				n := pauses(t, passive, tx, frames...)
				for range 2 {
					is(t, n, fmt.Sprintf("Pause %s %d/0 q%d d1", role, tec, queued))
					other := n.Clone()
					sees(t, other, "0", "0 Overload")
					is(t, other, fmt.Sprintf("OverFlag %s %d/0 q%d d0", role, tec, queued))
					sees(t, n, "1")
					is(t, n, fmt.Sprintf("Pause %s %d/0 q%d d1", role, tec, queued))
				}
				other := n.Clone()
				sees(t, other, "0")
				sends := queued > 0 && !(passive && tx)
				if sends {
					is(t, other, fmt.Sprintf("InFrame tx %d/0 q%d d0", tec, queued))
					row := onBus(short(5), true)
					sees(t, other, row[1:], fmt.Sprint(len(row)-2, " Sent 005#"))
				} else {
					is(t, other, fmt.Sprintf("InFrame rx %d/0 q%d d1", tec, queued))
					row := onBus(short(9), true)
					sees(t, other, row[1:], fmt.Sprint(len(row)-3, " Received 009#"))
				}
				sees(t, n, "1")
				want := fmt.Sprintf("Idle %s %d/0 q%d d%d", role, tec, queued, 1-queued)
				if passive && tx {
					want = fmt.Sprintf("Suspend %s %d/0 q%d d1", role, tec, queued)
				}
				is(t, n, want)
			}
		}
	}
}

// TestSuspend has a level 0 at each place: a frame begins that the node does not send, though it has one.
func TestSuspend(t *testing.T) {
	for _, frames := range [][]api.Frame{nil, {short(5)}} {
		queued := len(frames)
		n := pauses(t, true, true, frames...)
		sees(t, n, rest)
		for range 8 {
			is(t, n, fmt.Sprintf("Suspend tx 128/0 q%d d1", queued))
			other := n.Clone()
			sees(t, other, "0")
			is(t, other, fmt.Sprintf("InFrame rx 128/0 q%d d1", queued))
			row := onBus(short(9), true)
			sees(t, other, row[1:], fmt.Sprint(len(row)-3, " Received 009#"))
			is(t, other, fmt.Sprintf("Pause rx 128/0 q%d d1", queued))
			// It received the last one, so that it sends at once then.
			sees(t, other, rest)
			is(t, other, fmt.Sprintf("Idle rx 128/0 q%d d%d", queued, 1-queued))
			sees(t, n, "1")
		}
		is(t, n, fmt.Sprintf("Idle tx 128/0 q%d d%d", queued, 1-queued))
	}
}

// off is a node that is off, with a frame.
func off(t *testing.T) *ctl.Node {
	t.Helper()
	n := made(t, 248, 7, short(5))
	sees(t, n, "1", "0 BitError", "0 GoneOff")
	is(t, n, "BusOff tx 256/7 off q1 d1")
	return n
}

// TestBack has 127 and 128 rows, with levels 0 between.
func TestBack(t *testing.T) {
	for _, between := range []string{"", "0", "00", "11111 0", "1111111111 0", "1111111111 0 1111111111 0 0 1 0"} {
		n := off(t)
		for row := 1; row <= 127; row++ {
			sees(t, n, joins)
			if row%50 == 1 || row == 127 {
				sees(t, n, between)
			}
			is(t, n, "BusOff tx 256/7 off q1 d1")
		}
		sees(t, n, "1111111111")
		is(t, n, "BusOff tx 256/7 off q1 d1")
		other := n.Clone()
		sees(t, n, "1", "0 Back")
		is(t, n, "Idle rx 0/0 q1 d0")
		sees(t, other, "0 1111111111")
		is(t, other, "BusOff tx 256/7 off q1 d1")
		sees(t, other, "1", "0 Back")
		is(t, other, "Idle rx 0/0 q1 d0")
		// It is as any other one then.
		sends(t, other)
		is(t, other, "Idle tx 0/0 q0 d1")
	}
}

// TestRowsOfTenAreNone has many levels 1, but never eleven in a row.
func TestRowsOfTenAreNone(t *testing.T) {
	n := off(t)
	sees(t, n, strings.Repeat("1111111111 0", 500))
	is(t, n, "BusOff tx 256/7 off q1 d1")
	sees(t, n, strings.Repeat("0", 3000))
	is(t, n, "BusOff tx 256/7 off q1 d1")
	// Twelve are one row, and one level more, that a 0 behind it undoes.
	sees(t, n, strings.Repeat(joins+"1 0", 127))
	is(t, n, "BusOff tx 256/7 off q1 d1")
	sees(t, n, joins, "10 Back")
	is(t, n, "Idle rx 0/0 q1 d0")
}

// TestRowsBeginAnew has a node go off twice: the rows ahead are of the time ahead.
func TestRowsBeginAnew(t *testing.T) {
	n := off(t)
	sees(t, n, strings.Repeat(joins, 128), "1407 Back")
	for n.Look().Counts.TEC < 248 {
		step(t, n, '1')
		calm(t, n)
	}
	sees(t, n, "1", "0 BitError", "0 GoneOff")
	sees(t, n, strings.Repeat(joins, 127))
	is(t, n, "BusOff tx 256/0 off q1 d1")
	sees(t, n, joins, "10 Back")
}

// TestPutWhileOff has frames put in that wait till it is back.
func TestPutWhileOff(t *testing.T) {
	n := off(t)
	puts(t, n, short(4))
	is(t, n, "BusOff tx 256/7 off q2 d1")
	sees(t, n, strings.Repeat(joins, 128), "1407 Back")
	is(t, n, "Idle rx 0/0 q2 d0")
	sends(t, n)
	if l := n.Queue(); !slices.Equal(l, []api.Frame{short(5)}) {
		t.Errorf("it has %+v", l)
	}
}

// TestPutWhileItSends has frames put in at each level of one that is sent: that one goes on, and is taken out.
func TestPutWhileItSends(t *testing.T) {
	f := short(5, 1)
	row := onBus(f, true)
	for at := 1; at < len(row); at++ {
		for _, g := range []api.Frame{short(4), short(6), short(5, 2), short(5, 1), remote(short(5), 1), long(5 << 18), long(4 << 18)} {
			n := joined(t, f)
			sees(t, n, row[:at])
			puts(t, n, g)
			if n.Drive() != int(onBus(f, false)[at]-'0') {
				t.Errorf("at %d, behind Put of %s, it drives %d", at, text(g), n.Drive())
			}
			sees(t, n, row[at:], fmt.Sprint(len(row)-at-1, " Sent 005#01"))
			if l := n.Queue(); !slices.Equal(l, []api.Frame{g}) {
				t.Errorf("Put of %s at %d: %+v are left", text(g), at, l)
			}
			sees(t, n, rest+onBus(g, true), fmt.Sprint(3+len(onBus(g, true))-1, " Sent ", text(g)))
		}
	}
}

// TestPutWhileItErrs has the first frame of the queue sent as the next one begins, not the one that was sent ahead of the error.
func TestPutWhileItErrs(t *testing.T) {
	n := joined(t, short(5))
	sees(t, n, "01", "1 BitError")
	puts(t, n, short(4))
	sees(t, n, "000000 11111111 111")
	is(t, n, "Idle tx 8/0 q2 d0")
	for _, f := range []api.Frame{short(4), short(5)} {
		row := onBus(f, true)
		sees(t, n, row+rest, fmt.Sprint(len(row)-1, " Sent ", text(f)))
	}
	is(t, n, "Idle tx 6/0 q0 d1")
}

// TestPutWhileItReceives has a frame put in at each level of one that comes: the node goes on as it was, and sends behind it.
func TestPutWhileItReceives(t *testing.T) {
	f, g := short(0x123, 9), short(0)
	row := onBus(f, true)
	for at := 1; at < len(row); at++ {
		n := joined(t)
		sees(t, n, row[:at], received(at, len(row), 0, f)...)
		puts(t, n, g)
		wants := 1
		if at == len(row)-9 {
			wants = 0
		}
		if n.Drive() != wants {
			t.Errorf("behind Put at %d it drives %d", at, n.Drive())
		}
		sees(t, n, row[at:], received(len(row), len(row), at, f)...)
		is(t, n, "Pause rx 0/0 q1 d1")
		sees(t, n, rest)
		is(t, n, "Idle rx 0/0 q1 d0")
	}
}

// received is what is told of a frame of so many levels, of those from a first one up to an end.
func received(upTo, length, from int, f api.Frame) []string {
	if at := length - 2; at >= from && at < upTo {
		return []string{fmt.Sprint(at-from, " Received ", text(f))}
	}
	return nil
}

// TestPutAsOthersBegin has a frame put in ahead of each level of Pause, of one that was not the sender: it sends with the others as they begin early.
func TestPutAsOthersBegin(t *testing.T) {
	for at := range 3 {
		n := pauses(t, false, false)
		sees(t, n, rest[:at])
		puts(t, n, short(5))
		sees(t, n, rest[at:2])
		sees(t, n, "0")
		is(t, n, "InFrame tx 0/0 q1 d0")
	}
	n := pauses(t, false, false)
	sees(t, n, "110")
	puts(t, n, short(5))
	is(t, n, "InFrame rx 0/0 q1 d1")
	n = joined(t)
	puts(t, n, short(5))
	is(t, n, "Idle rx 0/0 q1 d0")
	sees(t, n, "0")
	is(t, n, "InFrame tx 0/0 q1 d0")
}

// TestRoleStays has one be the sender of the frame that was last, till another one begins.
func TestRoleStays(t *testing.T) {
	n := pauses(t, false, true)
	sees(t, n, rest+strings.Repeat("1", 20))
	is(t, n, "Idle tx 0/0 q0 d1")
	sees(t, n, "0")
	is(t, n, "InFrame rx 0/0 q0 d1")
	sees(t, n, "00000", "4 StuffError")
	is(t, n, "ErrorFlag rx 0/1 q0 d0")
	puts(t, n, short(5))
	sees(t, n, "000000 11111111 111")
	is(t, n, "Idle rx 0/1 q1 d0")
	sees(t, n, "1", "0 BitError")
	is(t, n, "ErrorFlag tx 8/1 q1 d0")
}

// P10.5

// TestSendsItsQueue has a node alone send what it has in order, with three levels between, also as it is passive.
func TestSendsItsQueue(t *testing.T) {
	for _, tec := range []int{0, 150} {
		n := made(t, tec, 0)
		for k := range 16 {
			puts(t, n, ranked()[k*5%16])
		}
		order := n.Queue()
		for k, f := range order {
			if l := n.Queue(); !slices.Equal(l, order[k:]) {
				t.Errorf("behind %d frames it has %+v", k, l)
			}
			row := onBus(f, true)
			sees(t, n, row, fmt.Sprint(len(row)-1, " Sent ", text(f)))
			sees(t, n, rest)
			if tec > 0 && n.Look().Counts.TEC > 127 {
				is(t, n, fmt.Sprintf("Suspend tx %d/0 q%d d1", tec-k-1, 15-k))
				sees(t, n, "11111111")
			}
		}
		is(t, n, fmt.Sprintf("Idle tx %d/0 q0 d1", max(tec-16, 0)))
	}
}

// TestManySeeOneFrame has a frame told once by each of some nodes, as one sends it, and none of them else acknowledges it.
func TestManySeeOneFrame(t *testing.T) {
	for _, f := range kinds() {
		nodes := []*ctl.Node{joined(t, f), joined(t), joined(t), made(t, 128, 0), made(t, 0, 200)}
		told := make([][]string, len(nodes))
		for range len(onBus(f, true)) + 3 {
			level := 1
			for _, n := range nodes {
				level = min(level, n.Drive())
			}
			for i, n := range nodes {
				told[i] = append(told[i], step(t, n, '0'+byte(level))...)
			}
		}
		for i, n := range nodes {
			want := "Received " + text(f)
			if i == 0 {
				want = "Sent " + text(f)
			}
			if !slices.Equal(told[i], []string{want}) || n.Look().Mode != ctl.Idle {
				t.Errorf("node %d, that is %s, tells %q", i, state(n), told[i])
			}
		}
	}
}
