package chooser

import (
	"noria/api"
	"noria/barrier"
	"slices"
)

// stage is which step is next.
type stage int

// The stages, as the chapter names them: at the first one there is no call, or one that has yet to begin; one that has stopped stays at
// the last one.
const (
	idle stage = iota
	sleep
	cursor
	shown
	take
	move
	signal
	leave
	bell
	stop
)

// step is the next step of one that is ready.
func (c *Chooser) step() api.Note {
	switch c.at {
	case idle:
		return c.begin()
	case cursor:
		return c.cursor()
	case shown:
		return c.shown()
	case take:
		return c.take()
	case move:
		return c.move()
	case signal:
		return c.finish()
	case leave:
		return c.leave()
	case bell:
		return c.bell()
	case stop:
		return c.stop()
	}
	c.room.Park(c.who, 0)
	return c.silent(idle)
}

// begin begins with a call, if there is one; else it leaves, or goes to sleep.
func (c *Chooser) begin() api.Note {
	// The cell is there from New on.
	sign, _ := c.room.Arena().Load(c.alert)
	switch {
	case len(c.calls) > 0 && sign == barrier.Alerted:
		return c.fail(api.ErrAlerted)
	case len(c.calls) > 0:
		c.turn, c.asked, c.gating = c.calls[0], 0, false
		return c.silent(cursor)
	case c.leaves || sign == barrier.Drain:
		c.turn = 0
		return c.silent(leave)
	}
	return c.silent(sleep)
}

// cursor reads whether the next index may be there.
func (c *Chooser) cursor() api.Note {
	s := c.here()
	last, _ := c.room.Arena().Load(c.room.Cursor(s.ring))
	switch {
	case last < s.next:
		return c.goOn()
	case c.room.Many(s.ring):
		return c.silent(shown)
	}
	return c.silent(take)
}

// shown reads whether an index that is claimed is published.
func (c *Chooser) shown() api.Note {
	s := c.here()
	if ok, _ := c.room.Shown(s.ring).Is(c.room.Arena(), s.next); ok {
		return c.silent(take)
	}
	c.gating = true
	return c.goOn()
}

// goOn asks the next ring, if one is left.
func (c *Chooser) goOn() api.Note {
	c.asked++
	switch {
	case c.asked < len(c.list):
		c.turn = (c.turn + 1) % len(c.list)
		return c.silent(cursor)
	case c.gating:
		return c.fail(api.ErrGating)
	}
	return c.fail(api.ErrIdle)
}

// take reads the event.
func (c *Chooser) take() api.Note {
	n, s := c.note(api.Handled), c.here()
	// What is there is an index, and no index is refused.
	n.X, _ = c.room.Slots(s.ring).Get(s.next)
	c.at = move
	return n
}

// move is done with the event.
func (c *Chooser) move() api.Note {
	s := c.here()
	c.room.Arena().Store(s.cell, s.next)
	c.at = signal
	return c.note(api.Moved)
}

// finish tells all who wait for news of the ring, and ends the call.
func (c *Chooser) finish() api.Note {
	n, s := c.note(api.Returned), c.here()
	c.room.Signal(s.ring)
	s.next++
	c.end()
	return n
}

// fail ends the call by an error.
func (c *Chooser) fail(code api.Errno) api.Note {
	c.end()
	n := c.plain(api.Returned)
	n.Code = code
	return n
}

// end lets the first call go.
func (c *Chooser) end() {
	c.calls = slices.Delete(c.calls, 0, 1)
	c.at = idle
}

// leave holds one ring back no more.
func (c *Chooser) leave() api.Note {
	n, s := c.note(api.Left), c.here()
	// It leaves only without a call: what the cell has is one less than the next index then.
	n.Lo, n.Seq = 0, s.next-1
	c.room.Gate(s.ring).Drop(s.cell)
	c.left, c.at = c.turn == len(c.list)-1, bell
	return n
}

// bell tells all who wait for news of the ring that it has left.
func (c *Chooser) bell() api.Note {
	c.room.Signal(c.here().ring)
	if c.left {
		return c.silent(stop)
	}
	c.turn++
	return c.silent(leave)
}

// stop does nothing any more.
func (c *Chooser) stop() api.Note {
	c.room.Halt(c.who)
	return c.plain(api.Stopped)
}

// here is the ring that the step is about.
func (c *Chooser) here() *source { return &c.list[c.turn] }

// silent is the note of a step that shows nothing; another one is next.
func (c *Chooser) silent(next stage) api.Note {
	c.at = next
	return c.plain(api.Silent)
}

// plain is what can be seen of a step that tells of no index: it has the first ring, whichever it is about.
func (c *Chooser) plain(d api.Deed) api.Note {
	return api.Note{Who: c.who, Ring: c.list[0].ring, Deed: d}
}

// note is what can be seen of a step that is about the next index of a ring.
func (c *Chooser) note(d api.Deed) api.Note {
	s := c.here()
	return api.Note{Who: c.who, Ring: s.ring, Deed: d, Lo: s.next, Seq: s.next}
}
