package pool

import (
	"noria/api"
	"noria/barrier"
	"noria/wait"
)

// stage is which step is next.
type stage int

// The stages, as the chapter names them; one that has stopped stays at the last one.
const (
	work stage = iota
	mine
	signal
	look
	rest
	enlist
	park
	swap
	take
	free
	bell
	stop
)

// step is the next step of one that is ready.
func (x *Worker) step() api.Note {
	switch x.at {
	case work:
		return x.work()
	case mine:
		return x.mine()
	case signal:
		x.room.Signal(x.ring)
		return x.seek()
	case look:
		return x.look()
	case enlist:
		x.room.Enlist(x.ring, x.who)
	case park:
		x.room.Park(x.who, x.patience.Until())
	case swap:
		return x.swap()
	case take:
		return x.take()
	case free:
		return x.free()
	case bell:
		x.room.Signal(x.ring)
		return x.silent(stop)
	case stop:
		return x.stop()
	}
	// Another one may have taken its index, while it rested, was told of news, or slept.
	return x.silent(work)
}

// work reads which index is next.
func (x *Worker) work() api.Note {
	// The cells are there from New on.
	x.taken, _ = x.room.Arena().Load(x.shared)
	if x.taken != x.held {
		return x.silent(mine)
	}
	return x.seek()
}

// mine holds nobody back any more at what was taken, by whomever: who took an index holds back at it till then.
func (x *Worker) mine() api.Note {
	x.room.Arena().Store(x.cell, x.taken)
	n := x.note(api.Moved, x.held+1, x.taken)
	x.held, x.at = x.taken, signal
	return n
}

// seek begins to look for the index that is next.
func (x *Worker) seek() api.Note {
	x.probe = x.barrier.Probe(x.next())
	return x.silent(look)
}

// look asks on whether that is there; when it is settled, it says how it goes on.
func (x *Worker) look() api.Note {
	x.probe, _ = x.probe.Step(x.room.Arena())
	switch {
	case !x.probe.Done():
		return x.silent(look)
	case x.probe.Sign() == barrier.Alerted:
		return x.silent(free)
	case x.probe.Available() >= x.next():
		return x.silent(swap)
	case x.probe.Sign() == barrier.Drain:
		return x.silent(free)
	}
	return x.vain()
}

// vain says what it does who looked in vain.
func (x *Worker) vain() api.Note {
	patience, act := x.patience.Vain(x.room.Clock().Now())
	x.patience = patience
	switch act {
	case wait.Rest:
		return x.silent(rest)
	case wait.Enlist:
		return x.silent(enlist)
	case wait.Park:
		return x.silent(park)
	case wait.GiveUp:
		x.begin()
		x.at = work
		return x.note(api.Late, 0, x.next())
	}
	return x.silent(work)
}

// swap takes the index, if no other one has.
func (x *Worker) swap() api.Note {
	if ok, _ := x.room.Arena().Swap(x.shared, x.taken, x.next()); ok {
		return x.silent(take)
	}
	return x.silent(work)
}

// take handles the event of the index that it took.
func (x *Worker) take() api.Note {
	n := x.note(api.Handled, x.next(), x.next())
	// What is there is an index, and no index is refused.
	n.X, _ = x.room.Slots(x.ring).Get(x.next())
	x.begin()
	x.at = work
	return n
}

// free holds nobody back any more.
func (x *Worker) free() api.Note {
	x.room.Arena().Store(x.cell, Free)
	x.at = bell
	return x.note(api.Left, 0, x.held)
}

// stop does nothing any more.
func (x *Worker) stop() api.Note {
	x.room.Halt(x.who)
	return x.note(api.Stopped, 0, x.held)
}

// next is the index behind the last one that was taken.
func (x *Worker) next() int64 { return x.taken + 1 }

// begin begins to wait.
func (x *Worker) begin() { x.patience = x.way.Begin(x.room.Clock().Now()) }

// silent is the note of a step that shows nothing; another one is next.
func (x *Worker) silent(next stage) api.Note {
	x.at = next
	return x.note(api.Silent, 0, 0)
}

// note is what can be seen of a step.
func (x *Worker) note(d api.Deed, lo, seq int64) api.Note {
	return api.Note{Who: x.who, Ring: x.ring, Deed: d, Lo: lo, Seq: seq}
}
