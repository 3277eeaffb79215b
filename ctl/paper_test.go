package ctl_test

import (
	"fmt"
	"slices"
	"strings"

	"magneto/api"
	"magneto/count"
	"magneto/ctl"
)

// Frames, their levels, and a node, written down apart from the program, in the document's own words. Levels are texts of 0 and 1.

// head are a frame's levels ahead of its sum, without those that are added.
func head(f api.Frame) string {
	remote := 0
	if f.Rtr {
		remote = 1
	}
	text := fmt.Sprintf("0%011b%d00%04b", f.ID, remote, f.Len)
	if f.Ext {
		text = fmt.Sprintf("0%011b11%018b%d00%04b", f.ID/262144, f.ID%262144, remote, f.Len)
	}
	if !f.Rtr {
		for _, b := range f.Data[:f.Len] {
			text += fmt.Sprintf("%08b", b)
		}
	}
	return text
}

// summed are levels with their sum behind.
func summed(head string) string { return head + fmt.Sprintf("%015b", remainder(head)) }

// remainder is the CRC-15 of levels, by a division on paper: all levels and 15 noughts, less the divisor wherever a 1 is first.
func remainder(text string) int {
	const divisor = 0b1100010110011001
	rest := 0
	for _, c := range text + strings.Repeat("0", 15) {
		rest = 2*rest + int(c-'0')
		if rest >= 1<<15 {
			rest ^= divisor
		}
	}
	return rest
}

// stuffed is a text with what is added to it.
func stuffed(text string) string {
	told := ""
	for i := range text {
		told += text[i : i+1]
		if strings.HasSuffix(told, "00000") {
			told += "1"
		} else if strings.HasSuffix(told, "11111") {
			told += "0"
		}
	}
	return told
}

// whole are the levels on the bus of a frame whose levels ahead of the sum are these.
func whole(head string, ack bool) string {
	slot := "1"
	if ack {
		slot = "0"
	}
	return stuffed(summed(head)) + "1" + slot + "11111111"
}

// onBus are a frame's levels on the bus.
func onBus(f api.Frame, ack bool) string { return whole(head(f), ack) }

// Places of levels.
const (
	start    = "Start"
	arb      = "Arb"
	ctrl     = "Ctrl"
	data     = "Data"
	sum      = "Sum"
	delim    = "Delim"
	slot     = "Slot"
	ackDelim = "AckDelim"
	end      = "End"
	done     = "Done"
)

// layout is where the fields of a frame's own levels end.
type layout struct{ arb, ctrl, data, sum int }

// laid is the layout of own levels; what they do not tell yet is 0.
func laid(own string) layout {
	if len(own) < 14 {
		return layout{}
	}
	l, remote := layout{arb: 14, ctrl: 19}, 12
	if own[13] == '1' {
		l, remote = layout{arb: 33, ctrl: 39}, 32
	}
	if len(own) < l.ctrl {
		return l
	}
	l.data = l.ctrl
	if own[remote] == '0' {
		l.data += 8 * min(value(own[l.ctrl-4:l.ctrl]), 8)
	}
	l.sum = l.data + 15
	return l
}

// value is the number of levels.
func value(text string) int {
	n := 0
	for _, c := range text {
		n = 2*n + int(c-'0')
	}
	return n
}

// next is the field of the level that comes behind own levels, and which one of it that is from the end of the frame on, if it is known.
func next(own string) (string, int) {
	n, l := len(own), laid(own)
	switch {
	case n == 0:
		return start, 0
	case n < 14 || n < l.arb:
		return arb, 0
	case n < l.ctrl:
		return ctrl, 0
	case n < l.data:
		return data, 0
	case n < l.sum:
		return sum, 0
	}
	left := l.sum + 10 - n
	return [11]string{done, end, end, end, end, end, end, end, ackDelim, slot, delim}[left], left
}

// sight is what levels on the bus are, that came from a frame's first one on.
type sight struct {
	own   string // those that were not added
	place string // the field of the frame's level that comes next
	left  int    // how many levels come from that one on, of those behind the sum
	added bool   // whether one that is added comes ahead of it
}

// read is what levels are, by going through all of them.
func read(bus string) sight {
	var own []byte
	alike := 0
	for i := 0; ; i++ {
		place, left := next(string(own))
		added := alike == 5 && (left == 0 && place != done || place == delim)
		if i == len(bus) {
			return sight{string(own), place, left, added}
		}
		if !added {
			own = append(own, bus[i])
		}
		if i > 0 && bus[i] == bus[i-1] {
			alike++
		} else {
			alike = 1
		}
	}
}

// right tells whether the sum is.
func (s sight) right() bool {
	return strings.HasPrefix(s.own, summed(s.own[:laid(s.own).data]))
}

// frame is the frame that came.
func (s sight) frame() api.Frame {
	l := laid(s.own)
	f := api.Frame{ID: value(s.own[1:12]), Rtr: s.own[12] == '1'}
	if s.own[13] == '1' {
		f = api.Frame{ID: value(s.own[1:12])*262144 + value(s.own[14:32]), Ext: true, Rtr: s.own[32] == '1'}
	}
	f.Len = min(value(s.own[l.ctrl-4:l.ctrl]), 8)
	for i := range (l.data - l.ctrl) / 8 {
		f.Data[i] = byte(value(s.own[l.ctrl+8*i : l.ctrl+8*i+8]))
	}
	return f
}

// paper is a node. What it saw stands as texts, that are read anew by each level.
type paper struct {
	mode     int
	tx       bool
	tec, rec int
	off      bool
	queue    []api.Frame
	came     string // in the mode, from its first level on
	bus      string // of the frame that is on
	plan     string // the levels on the bus of the frame that it sends, not acknowledged; none, if it sends none
	sent     api.Frame
	owed     bool
	erred    bool // the last flag was an error's
	told     []api.Event
}

// twin is a node of its own, the same.
func (p *paper) twin() *paper {
	q := *p
	q.queue, q.told = slices.Clone(p.queue), nil
	return &q
}

// put puts a frame in, that may be.
func (p *paper) put(f api.Frame) api.Errno {
	if len(p.queue) == 16 {
		return api.ErrFull
	}
	at := 0
	for at < len(p.queue) && arbitration(p.queue[at]) <= arbitration(f) {
		at++
	}
	p.queue = slices.Insert(p.queue, at, f)
	return api.OK
}

// arbitration are a frame's levels of Arb.
func arbitration(f api.Frame) string {
	if f.Ext {
		return head(f)[1:33]
	}
	return head(f)[1:14]
}

func (p *paper) look() ctl.Look {
	return ctl.Look{Mode: p.mode, Tx: p.tx, Counts: count.Counts{TEC: p.tec, REC: p.rec, Off: p.off}, Queued: len(p.queue)}
}

func (p *paper) passive() bool { return !p.off && (p.tec > 127 || p.rec > 127) }

func (p *paper) drive() byte {
	switch p.mode {
	case ctl.Idle:
		if len(p.queue) > 0 {
			return '0'
		}
	case ctl.ErrorFlag, ctl.OverFlag:
		return '0'
	case ctl.InFrame:
		if p.plan != "" {
			return p.plan[len(p.bus)]
		}
		if s := read(p.bus); s.place == slot && s.right() {
			return '0'
		}
	}
	return '1'
}

func (p *paper) tell(kind int) { p.told = append(p.told, api.Event{Kind: kind}) }

func (p *paper) turn(mode int) { p.mode, p.came = mode, "" }

// counts counts as it is, and tells whether the node went off by that.
func (p *paper) counts(weight int) bool {
	if !p.tx {
		p.rec = min(p.rec+weight, 255)
		return false
	}
	p.tec += 8
	if p.tec <= 255 {
		return false
	}
	p.tec, p.off = 256, true
	p.turn(ctl.BusOff)
	p.tell(api.GoneOff)
	return true
}

// errs has an error, that counts or not.
func (p *paper) errs(kind int, itCounts bool) {
	next := ctl.ErrorFlag
	if p.passive() {
		next = ctl.PassiveFlag
	}
	p.tell(kind)
	p.owed = false
	if itCounts && p.counts(1) {
		return
	}
	p.turn(next)
}

func (p *paper) overload() {
	p.tell(api.Overload)
	p.turn(ctl.OverFlag)
}

func (p *paper) begins(sends bool) {
	p.turn(ctl.InFrame)
	p.bus, p.plan, p.tx = "0", "", sends
	if sends {
		p.sent = p.queue[0]
		p.plan = onBus(p.sent, false)
	}
}

// step is what happens by a level.
func (p *paper) step(level byte) []api.Event {
	p.told = nil
	drove := p.drive()
	if p.mode == ctl.InFrame {
		p.inFrame(level, drove)
		return p.told
	}
	p.came += string(rune(level))
	switch p.mode {
	case ctl.Joining:
		if strings.HasSuffix(p.came, "11111111111") {
			p.turn(ctl.Idle)
		}
	case ctl.Idle:
		if level == '0' {
			p.begins(len(p.queue) > 0)
		} else if drove == '0' {
			p.tx = true
			p.errs(api.BitError, true)
		}
	case ctl.ErrorFlag, ctl.OverFlag, ctl.PassiveFlag:
		p.inFlag(level)
	case ctl.Waiting:
		p.waits(level)
	case ctl.Closing:
		p.closes(level)
	case ctl.Pause:
		p.pauses(level)
	case ctl.Suspend:
		if level == '0' {
			p.begins(false)
		} else if len(p.came) == 8 {
			p.turn(ctl.Idle)
		}
	case ctl.BusOff:
		p.isOff()
	}
	return p.told
}

func (p *paper) inFlag(level byte) {
	if p.mode == ctl.PassiveFlag {
		if level == '0' && p.owed {
			p.owed = false
			if p.counts(1) {
				return
			}
		}
		if strings.HasSuffix(p.came, "000000") || strings.HasSuffix(p.came, "111111") {
			p.owed, p.erred = false, true
			p.turn(ctl.Waiting)
		}
		return
	}
	if level == '1' {
		p.tell(api.BitError)
		if p.counts(8) {
			return
		}
	}
	if len(p.came) == 6 {
		p.erred = p.mode == ctl.ErrorFlag
		p.turn(ctl.Waiting)
	}
}

func (p *paper) waits(level byte) {
	if level == '1' {
		p.turn(ctl.Closing)
		p.came = "1"
		return
	}
	n := len(p.came)
	if n == 1 && p.erred && !p.tx {
		p.counts(8)
	}
	if n%8 == 0 {
		p.counts(8)
	}
}

func (p *paper) closes(level byte) {
	switch {
	case level == '1':
		if p.came == "11111111" {
			p.turn(ctl.Pause)
		}
	case p.came == "11111110":
		p.overload()
	default:
		p.errs(api.FormError, true)
	}
}

func (p *paper) pauses(level byte) {
	waits := p.passive() && p.tx
	switch p.came {
	case "0", "10":
		p.overload()
	case "110":
		p.begins(len(p.queue) > 0 && !waits)
	case "111":
		if waits {
			p.turn(ctl.Suspend)
		} else {
			p.turn(ctl.Idle)
		}
	}
}

func (p *paper) isOff() {
	rows := 0
	for _, ones := range strings.Split(p.came, "0") {
		rows += len(ones) / 11
	}
	if rows == 128 {
		p.tec, p.rec, p.off, p.tx = 0, 0, false, false
		p.tell(api.Back)
		p.turn(ctl.Idle)
	}
}

// inFrame goes through what the chapter has, in its order.
func (p *paper) inFrame(level, drove byte) {
	s := read(p.bus)
	sends := p.plan != ""
	if sends && level == '0' && drove == '1' && s.place == arb && !s.added {
		p.tell(api.Lost)
		p.tx, p.plan, sends = false, "", false
	}
	six := s.added && p.bus[len(p.bus)-1] == level
	at := func(place string) bool { return s.place == place && !s.added }
	switch {
	case sends && level == '0' && drove == '1' && s.added && s.place == arb:
		p.errs(api.StuffError, false)
	case sends && level != drove && !(at(slot) && level == '0'):
		p.errs(api.BitError, true)
	case !sends && level == '1' && drove == '0':
		p.errs(api.BitError, true)
	case six:
		p.errs(api.StuffError, true)
	case sends && at(slot) && level == '1':
		owed := p.passive()
		p.errs(api.AckError, !owed)
		p.owed = owed
	case !sends && at(end) && s.left == 1 && level == '0':
		p.overload()
	case (at(delim) || at(ackDelim) || at(end)) && level == '0':
		p.errs(api.FormError, true)
	case at(ackDelim) && !sends && !s.right():
		p.errs(api.SumError, true)
	default:
		p.bus += string(rune(level))
		p.taken(sends)
	}
}

// taken is what comes of a level that was taken.
func (p *paper) taken(sends bool) {
	s := read(p.bus)
	switch {
	case s.place == end && s.left == 1 && !sends:
		if p.rec > 127 {
			p.rec = 119
		} else {
			p.rec = max(p.rec-1, 0)
		}
		p.told = append(p.told, api.Event{Kind: api.Received, Frame: s.frame()})
	case s.place == done:
		p.turn(ctl.Pause)
		if sends {
			p.tec = max(p.tec-1, 0)
			p.told = append(p.told, api.Event{Kind: api.Sent, Frame: p.sent})
			at := slices.Index(p.queue, p.sent)
			p.queue = slices.Delete(p.queue, at, at+1)
		}
	}
}
