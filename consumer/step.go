package consumer

import (
	"noria/api"
	"noria/barrier"
	"noria/wait"
)

// stage is which step is next.
type stage int

// The stages, as the chapter names them; one that has stopped stays at the last one.
const (
	look stage = iota
	rest
	enlist
	park
	handle
	move
	signal
	leave
	bell
	stop
)

// step is the next step of one that is ready.
func (c *Consumer) step() api.Note {
	switch c.at {
	case look:
		return c.look()
	case handle:
		return c.handle()
	case move:
		return c.move()
	case leave:
		return c.leave()
	case bell:
		return c.bell()
	case stop:
		return c.stop()
	case enlist:
		c.room.Enlist(c.ring, c.who)
	case park:
		c.room.Park(c.who, c.patience.Until())
	case signal:
		c.room.Signal(c.ring)
		c.begin()
	}
	// Who rested, is told of news, slept, or has moved looks anew.
	return c.anew()
}

// look asks on how far it may go; when that is settled, it says how it goes on.
func (c *Consumer) look() api.Note {
	// The cells that are read are there from New on.
	c.probe, _ = c.probe.Step(c.room.Arena())
	switch {
	case !c.probe.Done():
		return c.silent(look)
	case c.probe.Sign() == barrier.Alerted:
		return c.end()
	case c.probe.Available() >= c.Next():
		c.seq, c.last = c.Next(), min(c.probe.Available(), c.done+int64(c.batch))
		return c.silent(handle)
	case c.probe.Sign() == barrier.Drain:
		return c.end()
	}
	return c.vain()
}

// vain says what it does who looked in vain.
func (c *Consumer) vain() api.Note {
	patience, act := c.patience.Vain(c.room.Clock().Now())
	c.patience = patience
	switch act {
	case wait.Rest:
		return c.silent(rest)
	case wait.Enlist:
		return c.silent(enlist)
	case wait.Park:
		return c.silent(park)
	case wait.GiveUp:
		c.begin()
		c.anew()
		return c.note(api.Late, 0, c.Next())
	}
	return c.anew()
}

// end begins to stop; who should leave does so ahead of that.
func (c *Consumer) end() api.Note {
	if c.leaves {
		return c.silent(leave)
	}
	return c.silent(stop)
}

// handle reads the event of one index more.
func (c *Consumer) handle() api.Note {
	n := c.note(api.Handled, c.seq, c.seq)
	// What is there is an index, and no index is refused.
	n.X, _ = c.room.Slots(c.ring).Get(c.seq)
	if c.seq < c.last {
		c.seq++
		return n
	}
	c.at = move
	return n
}

// move is done with what was handled.
func (c *Consumer) move() api.Note {
	c.room.Arena().Store(c.cell, c.last)
	n := c.note(api.Moved, c.Next(), c.last)
	c.done, c.at = c.last, signal
	return n
}

// leave holds nobody back any more.
func (c *Consumer) leave() api.Note {
	c.room.Gate(c.ring).Drop(c.cell)
	c.left, c.at = true, bell
	return c.note(api.Left, 0, c.done)
}

// bell tells all who wait for news that it has left.
func (c *Consumer) bell() api.Note {
	c.room.Signal(c.ring)
	return c.silent(stop)
}

// stop does nothing any more.
func (c *Consumer) stop() api.Note {
	c.room.Halt(c.who)
	return c.note(api.Stopped, 0, c.done)
}

// begin begins to wait.
func (c *Consumer) begin() { c.patience = c.way.Begin(c.room.Clock().Now()) }

// anew begins to look, for the index that is next then.
func (c *Consumer) anew() api.Note {
	c.probe = c.barrier.Probe(c.Next())
	return c.silent(look)
}

// silent is the note of a step that shows nothing; another one is next.
func (c *Consumer) silent(next stage) api.Note {
	c.at = next
	return c.note(api.Silent, 0, 0)
}

// note is what can be seen of a step.
func (c *Consumer) note(d api.Deed, lo, seq int64) api.Note {
	return api.Note{Who: c.who, Ring: c.ring, Deed: d, Lo: lo, Seq: seq}
}
