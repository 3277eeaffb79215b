package ctl

import (
	"magneto/api"
	"magneto/count"
	"magneto/field"
)

// How many levels, or rows of them, make something up.
const (
	fullRow       = 5   // alike, behind which one is added
	quietRow      = 11  // levels 1, by which a node joins, or one row of BusOff is whole
	quietRows     = 128 // of BusOff
	flagLevels    = 6
	patience      = 8 // levels 0 of Waiting, that count each time
	closingLevels = 8
	pauseLevels   = 3
	suspendLevels = 8
)

// The weights of an error as one receives.
const (
	light = 1
	heavy = 8
)

// deeds are what a level does, by modes.
func deeds() [BusOff + 1]func(n *Node, level int) []api.Event {
	return [BusOff + 1]func(n *Node, level int) []api.Event{
		Joining:     (*Node).join,
		Idle:        (*Node).idle,
		InFrame:     (*Node).inFrame,
		ErrorFlag:   (*Node).flag,
		PassiveFlag: (*Node).passiveFlag,
		OverFlag:    (*Node).flag,
		Waiting:     (*Node).wait,
		Closing:     (*Node).close,
		Pause:       (*Node).pause,
		Suspend:     (*Node).suspend,
		BusOff:      (*Node).off,
	}
}

// enter has a mode begin. What the one ahead of it counted, and the frame that was on, are gone then.
func (n *Node) enter(mode int) {
	n.stay, n.taker, n.out = stay{mode: mode}, taker{}, sending{}
}

// tell is an event without a frame.
func tell(kind int) []api.Event {
	return []api.Event{{Kind: kind}}
}

// passive tells whether a node is passive.
func (n *Node) passive() bool {
	return count.State(n.counts) == api.Passive
}

// countAsItIs counts an error, of a weight if the node is not the sender.
// The mode behind the error is to be entered ahead of it: BusOff has to come in its stead, if the node goes off.
func (n *Node) countAsItIs(weight int) []api.Event {
	if n.tx {
		n.counts = count.Tx(n.counts)
	} else {
		n.counts = count.Rx(n.counts, weight)
	}
	if count.State(n.counts) != api.Off {
		return nil
	}
	n.enter(BusOff)
	return tell(api.GoneOff)
}

// fail has an error that counts.
func (n *Node) fail(kind int) []api.Event {
	told := n.failUncounted(kind)
	return append(told, n.countAsItIs(light)...)
}

// failUncounted has an error that does not count.
func (n *Node) failUncounted(kind int) []api.Event {
	if n.passive() {
		n.enter(PassiveFlag)
	} else {
		n.enter(ErrorFlag)
	}
	return tell(kind)
}

// overload has an overload.
func (n *Node) overload() []api.Event {
	n.enter(OverFlag)
	return tell(api.Overload)
}

// begin has a frame begin, whose first level was seen. The node sends it, if it may, and has one.
func (n *Node) begin(may bool) {
	n.enter(InFrame)
	f, has := n.queue.First()
	n.tx = may && has
	if n.tx {
		n.out.frame = f
		n.out.levels, _ = field.All(f) // what a queue has may be
	}
	n.take(api.Dominant)
}

// join is what a level does in Joining.
func (n *Node) join(level int) []api.Event {
	if n.quiet(level) {
		n.enter(Idle)
	}
	return nil
}

// quiet tells whether a row of levels 1 is whole by a level.
func (n *Node) quiet(level int) bool {
	return n.seen.tell(level) == quietRow && level == api.Recessive
}

// idle is what a level does in Idle.
func (n *Node) idle(level int) []api.Event {
	switch {
	case level == api.Dominant:
		n.begin(true)
	case n.Drive() == api.Dominant:
		n.tx = true
		return n.fail(api.BitError)
	}
	return nil
}

// driveInFrame is what a node drives in InFrame.
func (n *Node) driveInFrame() int {
	switch {
	case n.tx && n.added():
		return other(n.same.level)
	case n.tx:
		return n.out.levels[len(n.own)]
	case n.kind == field.Slot && n.right():
		return api.Dominant
	}
	return api.Recessive
}

// other is the level that a level is not.
func other(level int) int {
	if level == api.Dominant {
		return api.Recessive
	}
	return api.Dominant
}

// inFrame is what a level does in InFrame.
func (n *Node) inFrame(level int) []api.Event {
	if n.loses(level) {
		n.tx, n.out = false, sending{}
		return append(tell(api.Lost), n.receive(level)...)
	}
	if n.tx {
		return n.send(level)
	}
	return n.receive(level)
}

// loses tells whether a node that sends loses arbitration by a level.
func (n *Node) loses(level int) bool {
	return n.tx && n.kind == field.Arb && !n.added() && level < n.Drive()
}

// send is what a level does to a node that sends the frame.
func (n *Node) send(level int) []api.Event {
	switch drives := n.Drive(); {
	case n.kind == field.Slot && level == api.Dominant:
		return n.goOn(level)
	case n.kind == field.Slot:
		return n.failUnheard()
	case n.kind == field.Arb && n.added() && level < drives:
		return n.failUncounted(api.StuffError)
	case level != drives:
		return n.fail(api.BitError)
	}
	return n.goOn(level)
}

// failUnheard has the error of a frame that nobody acknowledged.
func (n *Node) failUnheard() []api.Event {
	if !n.passive() {
		return n.fail(api.AckError)
	}
	told := n.failUncounted(api.AckError)
	n.owed = true
	return told
}

// receive is what a level does to a node that does not send the frame.
func (n *Node) receive(level int) []api.Event {
	if n.late(level) {
		return n.overload()
	}
	if kind, wrong := n.wrong(level); wrong {
		return n.fail(kind)
	}
	return n.goOn(level)
}

// late tells whether a level 0 comes as the last one of End, where the node has received the frame.
func (n *Node) late(level int) bool {
	return n.kind == field.End && n.nth == api.EndBits-1 && level == api.Dominant
}

// wrong is the kind of error that a level is to a node that does not send the frame; false: it is none.
func (n *Node) wrong(level int) (int, bool) {
	switch {
	case level > n.Drive():
		return api.BitError, true
	case n.added():
		if level == n.same.level {
			return api.StuffError, true
		}
	case n.kind == field.Delim, n.kind == field.AckDelim, n.kind == field.End:
		if level == api.Dominant {
			return api.FormError, true
		}
		if n.kind == field.AckDelim && !n.right() {
			return api.SumError, true
		}
	}
	return 0, false
}

// goOn takes a level of a frame, that is as it has to be.
func (n *Node) goOn(level int) []api.Event {
	n.take(level)
	switch {
	case n.kind == field.Done:
		return n.end()
	case n.kind == field.End && n.nth == api.EndBits-1 && !n.tx:
		n.counts = count.Received(n.counts)
		f, _ := field.Frame(n.own) // these are a frame's levels
		return []api.Event{{Kind: api.Received, Frame: f}}
	}
	return nil
}

// end has a frame end.
func (n *Node) end() []api.Event {
	f := n.out.frame
	n.enter(Pause)
	if !n.tx {
		return nil
	}
	n.counts = count.Sent(n.counts)
	n.queue.Drop(f)
	return []api.Event{{Kind: api.Sent, Frame: f}}
}

// flag is what a level does in ErrorFlag, and in OverFlag.
func (n *Node) flag(level int) []api.Event {
	// The flag is as long as what the node drives, whatever it sees.
	if n.seen.tell(api.Dominant) == flagLevels {
		n.endFlag()
	}
	if level == api.Dominant {
		return nil
	}
	return append(tell(api.BitError), n.countAsItIs(heavy)...)
}

// endFlag has a flag end.
func (n *Node) endFlag() {
	erred := n.mode != OverFlag
	n.enter(Waiting)
	n.erred = erred
}

// passiveFlag is what a level does in PassiveFlag.
func (n *Node) passiveFlag(level int) []api.Event {
	due := n.owed && level == api.Dominant
	if due {
		n.owed = false
	}
	if n.seen.tell(level) == flagLevels {
		n.endFlag()
	}
	if !due {
		return nil
	}
	return n.countAsItIs(light)
}

// wait is what a level does in Waiting.
func (n *Node) wait(level int) []api.Event {
	if level == api.Recessive {
		n.enter(Closing)
		return n.close(level)
	}
	zeros := n.seen.tell(level)
	if zeros == 1 && n.erred && !n.tx || zeros%patience == 0 {
		return n.countAsItIs(heavy)
	}
	return nil
}

// close is what a level does in Closing. All that were seen there are 1, as a 0 ends it.
func (n *Node) close(level int) []api.Event {
	switch {
	case level == api.Recessive:
		if n.seen.tell(level) == closingLevels {
			n.enter(Pause)
		}
		return nil
	case n.seen.n == closingLevels-1:
		return n.overload()
	}
	return n.fail(api.FormError)
}

// pause is what a level does in Pause. All that were seen there are 1, as a 0 ends it.
func (n *Node) pause(level int) []api.Event {
	last := n.seen.n == pauseLevels-1
	holdsBack := n.passive() && n.tx
	switch {
	case level == api.Dominant && last:
		n.begin(!holdsBack)
	case level == api.Dominant:
		return n.overload()
	case !last:
		n.seen.tell(level)
	case holdsBack:
		n.enter(Suspend)
	default:
		n.enter(Idle)
	}
	return nil
}

// suspend is what a level does in Suspend. All that were seen there are 1, as a 0 ends it.
func (n *Node) suspend(level int) []api.Event {
	if level == api.Dominant {
		n.begin(false)
	} else if n.seen.tell(level) == suspendLevels {
		n.enter(Idle)
	}
	return nil
}

// off is what a level does in BusOff.
func (n *Node) off(level int) []api.Event {
	if !n.quiet(level) {
		return nil
	}
	n.seen = row{}
	n.rows++
	if n.rows < quietRows {
		return nil
	}
	n.counts = count.Back(n.counts)
	n.tx = false
	n.enter(Idle)
	return tell(api.Back)
}
