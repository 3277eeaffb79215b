package ctl_test

import (
	"fmt"
	"slices"
	"strings"
	"testing"

	"magneto/api"
	"magneto/ctl"
	"magneto/frame"
)

// P10.3: what happens is as the modes have it.

// text is a frame's text.
func text(f api.Frame) string {
	s, _ := frame.Text(f)
	return s
}

// upToSlot are a frame's levels on the bus up to the one ahead of the slot.
func upToSlot(f api.Frame) string {
	row := onBus(f, true)
	return row[:len(row)-9]
}

// turned are levels of which one is the other one.
func turned(row string, at int) string {
	return row[:at] + string(rune('0'+'1'-row[at])) + row[at+1:]
}

// TestExample is the chapter's.
func TestExample(t *testing.T) {
	n := joined(t, api.Frame{})
	row := strings.Repeat("000001", 6) + "0000" + "1111111111"
	if len(row) != 50 {
		t.Fatal(len(row))
	}
	for i := range row {
		if n.Drive() != int(row[i]-'0') {
			t.Errorf("level %d: it drives %d", i, n.Drive())
		}
		level, want := row[i], []string(nil)
		if i == 41 {
			level = '0'
		}
		if i == 49 {
			want = []string{"Sent 000#"}
		}
		if told := step(t, n, level); !slices.Equal(told, want) {
			t.Errorf("level %d: told %q", i, told)
		}
	}
	is(t, n, "Pause tx 0/0 q0 d1")
}

// moment is a node of counts, with frames, that saw levels as it was idle: what it is, and what by a level 0, and by a level 1.
type moment struct {
	tec, rec int
	frames   []api.Frame
	saw      string
	was      string
	zero     string
	one      string
}

// moments are of each mode: active, passive, and off; the sender, and not.
func moments() []moment {
	f := []api.Frame{short(5)}
	got := onBus(short(0x123), true)
	sent := onBus(short(5), true)
	const shut, six, half = "11111111", "000000", "000"
	return []moment{
		{0, 0, nil, "", "Idle rx 0/0 q0 d1", "InFrame rx 0/0 q0 d1", "Idle rx 0/0 q0 d1"},
		{0, 0, f, "", "Idle rx 0/0 q1 d0", "InFrame tx 0/0 q1 d0", "BitError: ErrorFlag tx 8/0 q1 d0"},
		{0, 128, nil, "", "Idle rx 0/128 q0 d1", "InFrame rx 0/128 q0 d1", "Idle rx 0/128 q0 d1"},
		{128, 0, nil, "", "Idle rx 128/0 q0 d1", "InFrame rx 128/0 q0 d1", "Idle rx 128/0 q0 d1"},
		{128, 0, f, "", "Idle rx 128/0 q1 d0", "InFrame tx 128/0 q1 d0", "BitError: PassiveFlag tx 136/0 q1 d1"},
		{0, 128, f, "", "Idle rx 0/128 q1 d0", "InFrame tx 0/128 q1 d0", "BitError: PassiveFlag tx 8/128 q1 d1"},
		{120, 127, f, "", "Idle rx 120/127 q1 d0", "InFrame tx 120/127 q1 d0", "BitError: ErrorFlag tx 128/127 q1 d0"},
		{247, 0, f, "", "Idle rx 247/0 q1 d0", "InFrame tx 247/0 q1 d0", "BitError: PassiveFlag tx 255/0 q1 d1"},
		{248, 0, f, "", "Idle rx 248/0 q1 d0", "InFrame tx 248/0 q1 d0", "BitError GoneOff: BusOff tx 256/0 off q1 d1"},

		{0, 0, nil, "0", "InFrame rx 0/0 q0 d1", "InFrame rx 0/0 q0 d1", "InFrame rx 0/0 q0 d1"},
		{0, 0, f, "0", "InFrame tx 0/0 q1 d0", "InFrame tx 0/0 q1 d0", "BitError: ErrorFlag tx 8/0 q1 d0"},
		{0, 0, nil, "0000", "InFrame rx 0/0 q0 d1", "InFrame rx 0/0 q0 d1", "InFrame rx 0/0 q0 d1"},
		{0, 0, nil, "00000", "InFrame rx 0/0 q0 d1", "StuffError: ErrorFlag rx 0/1 q0 d0", "InFrame rx 0/0 q0 d1"},
		{0, 0, nil, "011111", "InFrame rx 0/0 q0 d1", "InFrame rx 0/0 q0 d1", "StuffError: ErrorFlag rx 0/1 q0 d0"},
		{0, 0, f, "00000", "InFrame tx 0/0 q1 d1", "StuffError: ErrorFlag tx 0/0 q1 d0", "InFrame tx 0/0 q1 d0"},
		{128, 0, f, "0", "InFrame tx 128/0 q1 d0", "InFrame tx 128/0 q1 d0", "BitError: PassiveFlag tx 136/0 q1 d1"},
		{128, 0, f, "00000", "InFrame tx 128/0 q1 d1", "StuffError: PassiveFlag tx 128/0 q1 d1", "InFrame tx 128/0 q1 d0"},
		{0, 128, nil, "00000", "InFrame rx 0/128 q0 d1", "StuffError: PassiveFlag rx 0/129 q0 d1", "InFrame rx 0/128 q0 d1"},
		{254, 255, nil, "00000", "InFrame rx 254/255 q0 d1", "StuffError: PassiveFlag rx 254/255 q0 d1", "InFrame rx 254/255 q0 d1"},
		{248, 0, f, "0", "InFrame tx 248/0 q1 d0", "InFrame tx 248/0 q1 d0", "BitError GoneOff: BusOff tx 256/0 off q1 d1"},
		{0, 0, nil, got[:len(got)-9], "InFrame rx 0/0 q0 d0", "InFrame rx 0/0 q0 d1", "BitError: ErrorFlag rx 0/1 q0 d0"},
		{0, 128, nil, got[:len(got)-9], "InFrame rx 0/128 q0 d0", "InFrame rx 0/128 q0 d1", "BitError: PassiveFlag rx 0/129 q0 d1"},
		{0, 0, f, sent[:len(sent)-9], "InFrame tx 0/0 q1 d1", "InFrame tx 0/0 q1 d1", "AckError: ErrorFlag tx 8/0 q1 d0"},
		{128, 0, f, sent[:len(sent)-9], "InFrame tx 128/0 q1 d1", "InFrame tx 128/0 q1 d1", "AckError: PassiveFlag tx 128/0 q1 d1"},
		{0, 4, nil, got[:len(got)-2], "InFrame rx 0/4 q0 d1", "FormError: ErrorFlag rx 0/5 q0 d0", "Received 123#: InFrame rx 0/3 q0 d1"},
		{0, 200, nil, got[:len(got)-2], "InFrame rx 0/200 q0 d1", "FormError: PassiveFlag rx 0/201 q0 d1", "Received 123#: InFrame rx 0/119 q0 d1"},
		{0, 4, nil, got[:len(got)-1], "InFrame rx 0/3 q0 d1", "Overload: OverFlag rx 0/3 q0 d0", "Pause rx 0/3 q0 d1"},
		{9, 0, f, sent[:len(sent)-1], "InFrame tx 9/0 q1 d1", "BitError: ErrorFlag tx 17/0 q1 d0", "Sent 005#: Pause tx 8/0 q0 d1"},

		{0, 0, nil, six, "ErrorFlag rx 0/1 q0 d0", "ErrorFlag rx 0/1 q0 d0", "BitError: ErrorFlag rx 0/9 q0 d0"},
		{0, 127, nil, six, "ErrorFlag rx 0/128 q0 d0", "ErrorFlag rx 0/128 q0 d0", "BitError: ErrorFlag rx 0/136 q0 d0"},
		{0, 0, f, "1", "ErrorFlag tx 8/0 q1 d0", "ErrorFlag tx 8/0 q1 d0", "BitError: ErrorFlag tx 16/0 q1 d0"},
		{127, 0, f, "1", "ErrorFlag tx 135/0 q1 d0", "ErrorFlag tx 135/0 q1 d0", "BitError: ErrorFlag tx 143/0 q1 d0"},
		{0, 0, nil, six + "00000", "ErrorFlag rx 0/1 q0 d0", "Waiting rx 0/1 q0 d1", "BitError: Waiting rx 0/9 q0 d1"},
		{0, 0, f, "1" + "00000", "ErrorFlag tx 8/0 q1 d0", "Waiting tx 8/0 q1 d1", "BitError: Waiting tx 16/0 q1 d1"},

		{0, 128, nil, six, "PassiveFlag rx 0/129 q0 d1", "PassiveFlag rx 0/129 q0 d1", "PassiveFlag rx 0/129 q0 d1"},
		{128, 0, f, "1", "PassiveFlag tx 136/0 q1 d1", "PassiveFlag tx 136/0 q1 d1", "PassiveFlag tx 136/0 q1 d1"},
		{128, 0, f, "1" + "00000", "PassiveFlag tx 136/0 q1 d1", "Waiting tx 136/0 q1 d1", "PassiveFlag tx 136/0 q1 d1"},
		{0, 128, nil, six + "11111", "PassiveFlag rx 0/129 q0 d1", "PassiveFlag rx 0/129 q0 d1", "Waiting rx 0/129 q0 d1"},

		{0, 0, nil, got + "0", "OverFlag rx 0/0 q0 d0", "OverFlag rx 0/0 q0 d0", "BitError: OverFlag rx 0/8 q0 d0"},
		{8, 0, f, sent + "0", "OverFlag tx 7/0 q0 d0", "OverFlag tx 7/0 q0 d0", "BitError: OverFlag tx 15/0 q0 d0"},
		{140, 0, nil, got + "0", "OverFlag rx 140/0 q0 d0", "OverFlag rx 140/0 q0 d0", "BitError: OverFlag rx 140/8 q0 d0"},
		{140, 0, f, sent + "0", "OverFlag tx 139/0 q0 d0", "OverFlag tx 139/0 q0 d0", "BitError: OverFlag tx 147/0 q0 d0"},
		{249, 0, f, sent + "0", "OverFlag tx 248/0 q0 d0", "OverFlag tx 248/0 q0 d0", "BitError GoneOff: BusOff tx 256/0 off q0 d1"},
		{249, 0, f, sent + "0" + "00000", "OverFlag tx 248/0 q0 d0", "Waiting tx 248/0 q0 d1", "BitError GoneOff: BusOff tx 256/0 off q0 d1"},

		{0, 0, nil, six + six, "Waiting rx 0/1 q0 d1", "Waiting rx 0/9 q0 d1", "Closing rx 0/1 q0 d1"},
		{0, 128, nil, six + six, "Waiting rx 0/129 q0 d1", "Waiting rx 0/137 q0 d1", "Closing rx 0/129 q0 d1"},
		{0, 0, f, "1" + six, "Waiting tx 8/0 q1 d1", "Waiting tx 8/0 q1 d1", "Closing tx 8/0 q1 d1"},
		{128, 0, f, "1" + six, "Waiting tx 136/0 q1 d1", "Waiting tx 136/0 q1 d1", "Closing tx 136/0 q1 d1"},
		{0, 0, nil, got + "0" + six, "Waiting rx 0/0 q0 d1", "Waiting rx 0/0 q0 d1", "Closing rx 0/0 q0 d1"},
		{249, 0, f, sent + "0" + six + "0000000", "Waiting tx 248/0 q0 d1", "GoneOff: BusOff tx 256/0 off q0 d1", "Closing tx 248/0 q0 d1"},

		{0, 0, nil, six + six + "1", "Closing rx 0/1 q0 d1", "FormError: ErrorFlag rx 0/2 q0 d0", "Closing rx 0/1 q0 d1"},
		{0, 128, nil, six + six + "1", "Closing rx 0/129 q0 d1", "FormError: PassiveFlag rx 0/130 q0 d1", "Closing rx 0/129 q0 d1"},
		{0, 0, f, "1" + six + "1", "Closing tx 8/0 q1 d1", "FormError: ErrorFlag tx 16/0 q1 d0", "Closing tx 8/0 q1 d1"},
		{128, 0, f, "1" + six + "1", "Closing tx 136/0 q1 d1", "FormError: PassiveFlag tx 144/0 q1 d1", "Closing tx 136/0 q1 d1"},
		{249, 0, f, sent + "0" + six + "1", "Closing tx 248/0 q0 d1", "FormError GoneOff: BusOff tx 256/0 off q0 d1", "Closing tx 248/0 q0 d1"},
		{0, 0, nil, six + six + "1111111", "Closing rx 0/1 q0 d1", "Overload: OverFlag rx 0/1 q0 d0", "Pause rx 0/1 q0 d1"},
		{128, 0, f, "1" + six + "1111111", "Closing tx 136/0 q1 d1", "Overload: OverFlag tx 136/0 q1 d0", "Pause tx 136/0 q1 d1"},

		{0, 0, nil, got, "Pause rx 0/0 q0 d1", "Overload: OverFlag rx 0/0 q0 d0", "Pause rx 0/0 q0 d1"},
		{0, 0, f, sent, "Pause tx 0/0 q0 d1", "Overload: OverFlag tx 0/0 q0 d0", "Pause tx 0/0 q0 d1"},
		{140, 0, f, sent + "11", "Pause tx 139/0 q0 d1", "InFrame rx 139/0 q0 d1", "Suspend tx 139/0 q0 d1"},
		{140, 0, nil, got + "11", "Pause rx 140/0 q0 d1", "InFrame rx 140/0 q0 d1", "Idle rx 140/0 q0 d1"},
		{0, 0, f, "1" + six + shut + "11", "Pause tx 8/0 q1 d1", "InFrame tx 8/0 q1 d0", "Idle tx 8/0 q1 d0"},
		{128, 0, f, "1" + six + shut + "11", "Pause tx 136/0 q1 d1", "InFrame rx 136/0 q1 d1", "Suspend tx 136/0 q1 d1"},

		{140, 0, f, sent + "111", "Suspend tx 139/0 q0 d1", "InFrame rx 139/0 q0 d1", "Suspend tx 139/0 q0 d1"},
		{128, 0, f, "1" + six + shut + "111", "Suspend tx 136/0 q1 d1", "InFrame rx 136/0 q1 d1", "Suspend tx 136/0 q1 d1"},
		{128, 0, f, "1" + six + shut + "111" + "1111111", "Suspend tx 136/0 q1 d1", "InFrame rx 136/0 q1 d1", "Idle tx 136/0 q1 d0"},

		{248, 0, f, "1", "BusOff tx 256/0 off q1 d1", "BusOff tx 256/0 off q1 d1", "BusOff tx 256/0 off q1 d1"},
		{248, 3, f, "1" + half + strings.Repeat(joins, 127) + "1111111111", "BusOff tx 256/3 off q1 d1", "BusOff tx 256/3 off q1 d1", "Back: Idle rx 0/0 q1 d0"},
	}
}

// by is what is told by a level, and what the node is behind it.
func by(t *testing.T, n *ctl.Node, level byte) string {
	t.Helper()
	if told := step(t, n, level); len(told) > 0 {
		return strings.Join(told, " ") + ": " + state(n)
	}
	return state(n)
}

func TestEachMode(t *testing.T) {
	for _, m := range moments() {
		n := made(t, m.tec, m.rec, m.frames...)
		for i := range m.saw {
			step(t, n, m.saw[i])
		}
		if was := state(n); was != m.was {
			t.Errorf("behind %s the node is %s, not %s", m.saw, was, m.was)
			continue
		}
		other := n.Clone()
		if zero := by(t, n, '0'); zero != m.zero {
			t.Errorf("by 0 a node that is %s: %s, not %s", m.was, zero, m.zero)
		}
		if one := by(t, other, '1'); one != m.one {
			t.Errorf("by 1 a node that is %s: %s, not %s", m.was, one, m.one)
		}
	}
}

func TestJoining(t *testing.T) {
	for _, saw := range []string{"", "0", "1111111111", "11111111110", "1111111111 0 1111111111", "00000000000", "000000000000000", "10101010101010101010101", "0 1111111111", "00000000000 1111111111"} {
		n := ctl.New()
		puts(t, n, short(5))
		sees(t, n, saw)
		is(t, n, "Joining rx 0/0 q1 d1")
		sees(t, n, "0 1111111111")
		is(t, n, "Joining rx 0/0 q1 d1")
		sees(t, n, "1")
		is(t, n, "Idle rx 0/0 q1 d0")
	}
	n := ctl.New()
	sees(t, n, "1111111111")
	is(t, n, "Joining rx 0/0 q0 d1")
	sees(t, n, "1")
	is(t, n, "Idle rx 0/0 q0 d1")
	// One that joins tells nothing of the frames, and errors, of others; a frame has eleven levels 1 behind it.
	n = ctl.New()
	sees(t, n, "11111"+onBus(short(5, 1, 2), true)+"00000000000000"+onBus(short(5), true)+"11")
	is(t, n, "Joining rx 0/0 q0 d1")
	sees(t, n, "1")
	is(t, n, "Idle rx 0/0 q0 d1")
}

func TestIdleStaysIdle(t *testing.T) {
	n := joined(t)
	sees(t, n, strings.Repeat("1", 500))
	is(t, n, "Idle rx 0/0 q0 d1")
	puts(t, n, short(5))
	is(t, n, "Idle rx 0/0 q1 d0")
}

// kinds are frames of all kinds, some of which have much that is added.
func kinds() []api.Frame {
	return append(ranked(), short(0x7FF, 255, 255, 255, 255, 255, 255, 255, 255), short(0, 0, 0, 0, 0, 0, 0, 0, 0), short(0x2AA, 0xF8, 0x78, 0x3C, 0x1E, 0x0F, 0x87, 0xC3, 0xE1), long(0x15555555, 0xAA), remote(short(0x3E0), 8), long(0x3E0<<18|0x3FFFF))
}

// TestReceived has each frame told once, by the last but one of End, and acknowledged, if nobody else does.
func TestReceived(t *testing.T) {
	for _, f := range kinds() {
		for _, rec := range []int{0, 1, 127, 128, 255} {
			n := made(t, 0, rec)
			row := onBus(f, true)
			for i := range row {
				acks := 1
				if i == len(row)-9 {
					acks = 0
				}
				if n.Drive() != acks {
					t.Errorf("%s: it drives %d at %d", text(f), n.Drive(), i)
				}
				var want []string
				if i == len(row)-2 {
					want = []string{"Received " + text(f)}
				}
				if told := step(t, n, row[i]); !slices.Equal(told, want) {
					t.Errorf("%s: told %q at %d, not %q", text(f), told, i, want)
				}
			}
			is(t, n, fmt.Sprintf("Pause rx 0/%d q0 d1", map[int]int{0: 0, 1: 0, 127: 126, 128: 119, 255: 119}[rec]))
			sees(t, n, rest)
			is(t, n, fmt.Sprintf("Idle rx 0/%d q0 d1", map[int]int{0: 0, 1: 0, 127: 126, 128: 119, 255: 119}[rec]))
		}
	}
}

// TestReceivedAsNobodySends has frames as no node sends them: with 9 to 15 bytes told, and levels that are not asked.
func TestReceivedAsNobodySends(t *testing.T) {
	bytes := ""
	want := short(0x123, 1, 2, 3, 4, 5, 6, 7, 8)
	for _, b := range want.Data {
		bytes += fmt.Sprintf("%08b", b)
	}
	for told := 8; told < 16; told++ {
		for _, reserved := range []string{"0", "1"} {
			row := whole(fmt.Sprintf("0%011b00%s%04b", 0x123, reserved, told)+bytes, true)
			n := joined(t)
			sees(t, n, row, fmt.Sprint(len(row)-2, " Received ", text(want)))
			row = whole(fmt.Sprintf("0%011b10%s%04b", 0x123, reserved, told), true)
			n = joined(t)
			sees(t, n, row, fmt.Sprint(len(row)-2, " Received ", text(remote(short(0x123), 8))))
		}
		for k := range 8 {
			f := want
			f.ID, f.Ext = 0x155<<18|0x2A5A5, true
			row := whole(fmt.Sprintf("0%011b%d1%018b0%02b%04b", 0x155, k%2, 0x2A5A5, k/2, told)+bytes, true)
			n := joined(t)
			sees(t, n, row, fmt.Sprint(len(row)-2, " Received ", text(f)))
			row = whole(fmt.Sprintf("0%011b%d1%018b1%02b%04b", 0x155, k%2, 0x2A5A5, k/2, told), true)
			n = joined(t)
			sees(t, n, row, fmt.Sprint(len(row)-2, " Received ", text(remote(long(f.ID), 8))))
		}
	}
}

// TestSent has each frame driven level by level, and told once, by the last one of End.
func TestSent(t *testing.T) {
	for _, f := range kinds() {
		for _, tec := range []int{0, 1, 127, 128, 129, 254} {
			n := made(t, tec, 0, f)
			row, driven := onBus(f, true), onBus(f, false)
			for i := range row {
				if n.Drive() != int(driven[i]-'0') {
					t.Errorf("%s: it drives %d at %d", text(f), n.Drive(), i)
				}
				var want []string
				if i == len(row)-1 {
					want = []string{"Sent " + text(f)}
				}
				if told := step(t, n, row[i]); !slices.Equal(told, want) {
					t.Errorf("%s: told %q at %d, not %q", text(f), told, i, want)
				}
			}
			is(t, n, fmt.Sprintf("Pause tx %d/0 q0 d1", max(tec-1, 0)))
			sees(t, n, rest)
			// The count of sending at 127 is an active one's, and at 128 a passive one's.
			if tec-1 > 127 {
				is(t, n, fmt.Sprintf("Suspend tx %d/0 q0 d1", tec-1))
			} else {
				is(t, n, fmt.Sprintf("Idle tx %d/0 q0 d1", max(tec-1, 0)))
			}
		}
	}
}

func TestUnheard(t *testing.T) {
	for _, f := range kinds() {
		row := upToSlot(f)
		n := joined(t, f)
		for round := 1; round <= 16; round++ {
			sees(t, n, row+"1", fmt.Sprint(len(row), " AckError"))
			is(t, n, fmt.Sprintf("ErrorFlag tx %d/0 q1 d0", 8*round))
			sees(t, n, "000000 11111111 111")
		}
		// It is passive now: that does not count any more, as nobody drives a 0 within the flag.
		for range 3 {
			is(t, n, "Suspend tx 128/0 q1 d1")
			sees(t, n, "11111111")
			is(t, n, "Idle tx 128/0 q1 d0")
			sees(t, n, row+"1", fmt.Sprint(len(row), " AckError"))
			is(t, n, "PassiveFlag tx 128/0 q1 d1")
			sees(t, n, "111111")
			is(t, n, "Waiting tx 128/0 q1 d1")
			sees(t, n, "11111111 111")
		}
		sees(t, n, "11111111"+row+"0"+"11111111", fmt.Sprint(8+len(row)+8, " Sent ", text(f)))
		is(t, n, "Pause tx 127/0 q0 d1")
	}
}

// ends are the ends of fields.
var ends = map[string]func(l layout) int{
	"Arb":  func(l layout) int { return l.arb },
	"Ctrl": func(l layout) int { return l.ctrl },
	"Data": func(l layout) int { return l.data },
	"Sum":  func(l layout) int { return l.sum },
}

// fullAt is the place at which a level is added right behind a field's end, as five levels alike end there; -1: there is none.
func fullAt(row string, field string, level byte) int {
	for i := range row {
		s := read(row[:i])
		if s.added && len(s.own) == ends[field](laid(s.own)) && row[i-1] == level && (field != "Data" || laid(s.own).data > laid(s.own).ctrl) {
			return i
		}
	}
	return -1
}

// fullFrame is a frame with such a place.
func fullFrame(t *testing.T, field string, level byte, ext bool) (api.Frame, int) {
	t.Helper()
	for id := range 1 << 14 {
		low := id & 2047
		for _, f := range []api.Frame{short(low), remote(short(low), id>>11), short(low, byte(id>>6), byte(id)), long(id), remote(long(id), 3), remote(long(id), 0), long(id, byte(id)), long(id, 1, 2, byte(id))} {
			if f.Ext != ext {
				continue
			}
			if at := fullAt(onBus(f, true), field, level); at >= 0 {
				return f, at
			}
		}
	}
	t.Fatalf("no frame has five %c at the end of %s", level, field)
	return api.Frame{}, 0
}

// TestFullRowAtEndOfField has five levels alike at the end of each field, for the one that sends, and the one that receives, with the added level as it has to be, and not.
func TestFullRowAtEndOfField(t *testing.T) {
	for _, x := range []struct {
		field string
		level byte
		ext   bool
	}{
		// No frame that may be sent has five 1 at the end of a short one's Arb, or of a Ctrl.
		{"Arb", '0', false}, {"Arb", '0', true}, {"Arb", '1', true}, {"Ctrl", '0', false}, {"Ctrl", '0', true},
		{"Data", '0', false}, {"Data", '1', false}, {"Data", '0', true}, {"Data", '1', true},
		{"Sum", '0', false}, {"Sum", '1', false}, {"Sum", '0', true}, {"Sum", '1', true},
	} {
		f, at := fullFrame(t, x.field, x.level, x.ext)
		row := onBus(f, true)
		n := joined(t)
		sees(t, n, row, fmt.Sprint(len(row)-2, " Received ", text(f)))
		is(t, n, "Pause rx 0/0 q0 d1")
		n = joined(t)
		sees(t, n, turned(row, at)[:at+1], fmt.Sprint(at, " StuffError"))
		is(t, n, "ErrorFlag rx 0/1 q0 d0")
		n = joined(t, f)
		sees(t, n, row, fmt.Sprint(len(row)-1, " Sent ", text(f)))
		is(t, n, "Pause tx 0/0 q0 d1")
		n = joined(t, f)
		// What comes behind is not of Arb: that counts.
		sees(t, n, turned(row, at)[:at+1], fmt.Sprint(at, " BitError"))
		is(t, n, "ErrorFlag tx 8/0 q1 d0")
	}
}

// TestFullRowOfReserved has five 1 at the end of a Ctrl as no node sends it.
func TestFullRowOfReserved(t *testing.T) {
	row := whole(fmt.Sprintf("0%011b1011111", 0x123), true)
	at := fullAt(row, "Ctrl", '1')
	if at < 0 {
		t.Fatal(row)
	}
	n := joined(t)
	sees(t, n, row, fmt.Sprint(len(row)-2, " Received 123#R8"))
	n = joined(t)
	sees(t, n, turned(row, at)[:at+1], fmt.Sprint(at, " StuffError"))
}

// TestFullRowBehindSum has five levels alike of which some stand behind the sum: nothing is added there.
func TestFullRowBehindSum(t *testing.T) {
	for _, tail := range []string{"01", "011", "0111", "01111"} {
		found := false
		for id := range 2048 {
			f := short(id, 0x55)
			if row := onBus(f, false); strings.HasSuffix(row, tail+"1111111111") {
				n := joined(t)
				row = onBus(f, true)
				sees(t, n, row, fmt.Sprint(len(row)-2, " Received ", text(f)))
				n = joined(t, f)
				sees(t, n, row, fmt.Sprint(len(row)-1, " Sent ", text(f)))
				found = true
			}
		}
		if !found {
			t.Errorf("no frame ends with %s", tail)
		}
	}
}

// TestLost has frames that lose against others at each kind of place of Arb.
func TestLost(t *testing.T) {
	for _, x := range []struct {
		own, other api.Frame
		at         int // of the levels on the bus
	}{
		{short(0x400), short(0), 1}, {short(0x7FF), short(0x3FF), 1}, {short(0x555), short(0x455, 1), 3}, {short(5), short(4), 12},
		{remote(short(0x155), 0), short(0x155, 9), 12}, {long(0x155<<18 | 77), short(0x155), 12}, {long(0x155<<18 | 77), remote(short(0x155), 2), 13},
		{long(0x155<<18 | 0x20000), long(0x155 << 18), 14}, {long(0x155<<18 | 0x15555), long(0x155<<18 | 0x15554), 31},
		{remote(long(0x155<<18|0x15555), 1), long(0x155<<18|0x15555, 1), 32}, {long(0x1FFFFFFF), long(0x0FFFFFFF), 1},
		// Right behind one that was added: of the identifier, of a long one's tail, and the last one of Arb.
		{short(0x040), short(0), 6}, {short(0x7E0), short(0x7C0), 7}, {remote(short(0x160), 0), short(0x160), 13}, {long(0x14F << 18), remote(short(0x14F), 0), 14},
		{long(0x155<<18 | 0x10400), long(0x155<<18 | 0x10000), 22}, {remote(long(0x155<<18|0x15560), 0), long(0x155<<18 | 0x15560), 33},
		// Not right behind it, but with an added one ahead.
		{short(0x020, 3), short(0x01F), 7}, {remote(short(0x150), 0), short(0x150), 12}, {remote(short(0x3E0), 0), short(0x3E0), 14},
	} {
		row := onBus(x.other, true)
		for _, tec := range []int{0, 128} {
			n := made(t, tec, 0, x.own)
			sees(t, n, row[:x.at])
			is(t, n, fmt.Sprintf("InFrame tx %d/0 q1 d1", tec))
			sees(t, n, row[x.at:x.at+1], "0 Lost")
			sees(t, n, row[x.at+1:], fmt.Sprint(len(row)-x.at-3, " Received ", text(x.other)))
			is(t, n, fmt.Sprintf("Pause rx %d/0 q1 d1", tec))
			// It was not the sender, so that it does not hold back, passive or not.
			sees(t, n, rest)
			is(t, n, fmt.Sprintf("Idle rx %d/0 q1 d0", tec))
			own := onBus(x.own, true)
			sees(t, n, own, fmt.Sprint(len(own)-1, " Sent ", text(x.own)))
		}
	}
}

// TestLostThenErrs has an error of one that has lost count as of one that receives.
func TestLostThenErrs(t *testing.T) {
	n := joined(t, short(5))
	row := onBus(short(4), true)
	sees(t, n, row[:13], "12 Lost")
	is(t, n, "InFrame rx 0/0 q1 d1")
	sees(t, n, row[13:len(row)-9])
	is(t, n, "InFrame rx 0/0 q1 d0")
	sees(t, n, "1", "0 BitError")
	is(t, n, "ErrorFlag rx 0/1 q1 d0")
	sees(t, n, "1", "0 BitError")
	is(t, n, "ErrorFlag rx 0/9 q1 d0")
	sees(t, n, "00000 0 11111111 111")
	is(t, n, "Idle rx 0/17 q1 d0")
}

// TestNotLost has a sender see 1 where it drives 0 within Arb, and 0 where it drives 1 behind it.
func TestNotLost(t *testing.T) {
	f := short(0x2A5, 0x5A)
	row := onBus(f, true)
	for at := 1; at <= 13; at++ {
		if row[at] == '0' {
			n := joined(t, f)
			sees(t, n, turned(row, at)[:at+1], fmt.Sprint(at, " BitError"))
			is(t, n, "ErrorFlag tx 8/0 q1 d0")
		}
	}
	for at := 14; at < len(row)-10; at++ {
		n := joined(t, f)
		sees(t, n, turned(row, at)[:at+1], fmt.Sprint(at, " BitError"))
		is(t, n, "ErrorFlag tx 8/0 q1 d0")
	}
	// A long frame's Arb goes on behind the place 13, and its Ctrl comes behind the place 32.
	g := remote(long(0x155<<18|0x15555), 5)
	row = onBus(g, true)
	n := joined(t, g)
	sees(t, n, row[:32]+"0", "32 Lost")
	is(t, n, "InFrame rx 0/0 q1 d1")
	n = joined(t, g)
	sees(t, n, row[:36]+"0", "36 BitError")
	is(t, n, "ErrorFlag tx 8/0 q1 d0")
}

// TestAddedOfArb has a sender see the other level than it drives as an added one, ahead of one of Arb, and ahead of others.
func TestAddedOfArb(t *testing.T) {
	for _, x := range []struct {
		f    api.Frame
		at   int
		kind string
		adds int
	}{
		{short(0), 5, "StuffError", 0}, {short(0), 11, "StuffError", 0}, {long(0), 5, "StuffError", 0},
		// Ahead of a short one's last level of Arb, and of a long one's tail, and its last one.
		{short(0x150), 13, "StuffError", 0}, {long(0x155<<18 | 0x10000), 21, "StuffError", 0}, {long(0x155<<18 | 0x15560), 32, "StuffError", 0},
		// A 1, where it drives 0.
		{short(0x7C0), 6, "BitError", 8}, {short(0x7FF), 6, "BitError", 8}, {long(0x1FFFFFFF), 6, "BitError", 8}, {long(0x1FFFFFFF), 12, "BitError", 8}, {long(0x14F << 18), 13, "BitError", 8},
		// Right behind Arb's last one, and within Ctrl: that counts, whichever it is.
		{short(0x2A8), 14, "BitError", 8}, {long(0x155<<18 | 0x15550), 33, "BitError", 8},
	} {
		row := onBus(x.f, true)
		if s := read(row[:x.at]); !s.added {
			t.Fatalf("%s: nothing is added at %d", text(x.f), x.at)
		}
		for _, tec := range []int{0, 128, 247} {
			n := made(t, tec, 0, x.f)
			sees(t, n, turned(row, x.at)[:x.at+1], fmt.Sprint(x.at, " ", x.kind))
			flag := "ErrorFlag tx %d/0 q1 d0"
			if tec >= 128 {
				flag = "PassiveFlag tx %d/0 q1 d1"
			}
			is(t, n, fmt.Sprintf(flag, tec+x.adds))
		}
	}
}
