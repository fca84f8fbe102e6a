package poller

import (
	"noria/api"
	"noria/barrier"
	"noria/wait"
	"slices"
)

// stage is which step is next.
type stage int

// The stages, as the chapter names them: at the first one there is no call, or one that has yet to begin; one that has stopped stays at
// the last one.
const (
	idle stage = iota
	sleep
	look
	rest
	enlist
	park
	cursor
	handle
	move
	signal
	leave
	bell
	stop
)

// step is the next step of one that is ready.
func (p *Poller) step() api.Note {
	switch p.at {
	case idle:
		return p.begin()
	case look:
		return p.look()
	case cursor:
		return p.cursor()
	case handle:
		return p.handle()
	case move:
		return p.move()
	case signal:
		return p.finish()
	case leave:
		return p.leave()
	case bell:
		return p.bell()
	case stop:
		return p.stop()
	case sleep:
		p.room.Park(p.who, 0)
		return p.silent(idle)
	case enlist:
		p.room.Enlist(p.ring, p.who)
	case park:
		p.room.Park(p.who, p.patience.Until())
	}
	// Who rested, is told of news, or slept looks anew.
	p.anew()
	return p.silent(look)
}

// begin begins with a call, if there is one; else it leaves, stops, or goes to sleep.
func (p *Poller) begin() api.Note {
	p.anew()
	p.ask()
	switch {
	case len(p.calls) > 0:
		p.patience = p.way.Begin(p.room.Clock().Now())
		return p.judge()
	case p.leaves:
		return p.silent(leave)
	case p.probe.Sign() == barrier.Drain:
		return p.silent(stop)
	}
	return p.silent(sleep)
}

// look asks on how far it may go.
func (p *Poller) look() api.Note {
	p.ask()
	return p.judge()
}

// judge says how the call goes on, by how far the probe came.
func (p *Poller) judge() api.Note {
	c := p.calls[0]
	switch {
	case !p.probe.Done():
		return p.silent(look)
	case p.probe.Sign() == barrier.Alerted:
		return p.fail(api.ErrAlerted)
	case p.probe.Available() >= p.next:
		p.seq, p.last = p.next, min(p.probe.Available(), p.next+int64(c.most)-1)
		return p.silent(handle)
	case c.waits:
		return p.vain()
	}
	return p.silent(cursor)
}

// vain says what it does who looked in vain, and waits.
func (p *Poller) vain() api.Note {
	patience, act := p.patience.Vain(p.room.Clock().Now())
	p.patience = patience
	switch act {
	case wait.Rest:
		return p.silent(rest)
	case wait.Enlist:
		return p.silent(enlist)
	case wait.Park:
		return p.silent(park)
	case wait.GiveUp:
		return p.fail(api.ErrTimeout)
	}
	p.anew()
	return p.silent(look)
}

// cursor tells of one that doesn't wait why it found nothing.
func (p *Poller) cursor() api.Note {
	// The cell is there from New on.
	last, _ := p.room.Arena().Load(p.room.Cursor(p.ring))
	if last < p.next {
		return p.fail(api.ErrIdle)
	}
	return p.fail(api.ErrGating)
}

// handle reads the event of one index more.
func (p *Poller) handle() api.Note {
	n := p.note(api.Handled, p.seq, p.seq)
	// What is there is an index, and no index is refused.
	n.X, _ = p.room.Slots(p.ring).Get(p.seq)
	if p.seq < p.last {
		p.seq++
		return n
	}
	p.at = move
	return n
}

// move is done with what was handled.
func (p *Poller) move() api.Note {
	p.room.Arena().Store(p.cell, p.last)
	p.done, p.at = p.last, signal
	return p.note(api.Moved, p.next, p.last)
}

// finish tells all who wait for news, and ends the call.
func (p *Poller) finish() api.Note {
	p.room.Signal(p.ring)
	n := p.note(api.Returned, p.next, p.last)
	p.next = p.done + 1
	p.end()
	return n
}

// fail ends the call by an error.
func (p *Poller) fail(code api.Errno) api.Note {
	n := p.note(api.Returned, 0, 0)
	n.Code = code
	p.end()
	return n
}

// end lets the first call go.
func (p *Poller) end() {
	p.calls = slices.Delete(p.calls, 0, 1)
	p.at = idle
}

// leave holds nobody back any more.
func (p *Poller) leave() api.Note {
	p.room.Gate(p.ring).Drop(p.cell)
	p.left, p.at = true, bell
	return p.note(api.Left, 0, p.done)
}

// bell tells all who wait for news that it has left.
func (p *Poller) bell() api.Note {
	p.room.Signal(p.ring)
	return p.silent(stop)
}

// stop does nothing any more.
func (p *Poller) stop() api.Note {
	p.room.Halt(p.who)
	return p.note(api.Stopped, 0, p.done)
}

// anew begins to look, for its next index.
func (p *Poller) anew() { p.probe = p.barrier.Probe(p.next) }

// ask reads one cell more of those that tell how far it may go.
func (p *Poller) ask() {
	// The cells that are read are there from New on.
	p.probe, _ = p.probe.Step(p.room.Arena())
}

// silent is the note of a step that shows nothing; another one is next.
func (p *Poller) silent(next stage) api.Note {
	p.at = next
	return p.note(api.Silent, 0, 0)
}

// note is what can be seen of a step.
func (p *Poller) note(d api.Deed, lo, seq int64) api.Note {
	return api.Note{Who: p.who, Ring: p.ring, Deed: d, Lo: lo, Seq: seq}
}
