package producer

import (
	"errors"
	"noria/api"
	"noria/barrier"
	"noria/room"
	"noria/wait"
	"slices"
)

// stage is which step is next.
type stage int

// The stages, as the chapter names them: at the first one there is no call, or one that has yet to begin.
const (
	idle stage = iota
	sleep
	look
	claim
	rest
	enlist
	park
	put
	show
	signal
)

// step is the next step of one that is ready.
func (p *Producer) step() api.Note {
	switch p.at {
	case idle:
		return p.begin()
	case look:
		return p.look(p.sign())
	case claim:
		return p.goOn()
	case put:
		return p.put()
	case show:
		return p.show()
	case signal:
		return p.finish()
	case sleep:
		p.room.Park(p.who, 0)
		return p.silent(idle)
	case enlist:
		p.room.Enlist(p.ring, p.who)
	case park:
		p.room.Park(p.who, p.patience.Until())
	}
	// Who was told, slept or rested looks again.
	return p.silent(look)
}

// begin begins with a call, if there is one; else it goes to sleep, or stops.
func (p *Producer) begin() api.Note {
	sign := p.sign()
	switch {
	case len(p.calls) > 0:
		p.patience = p.way.Begin(p.room.Clock().Now())
		return p.look(sign)
	case sign == barrier.Drain:
		p.room.Halt(p.who)
		return p.note(api.Stopped)
	}
	return p.silent(sleep)
}

// look begins to claim, but if it was told to stop.
func (p *Producer) look(sign int64) api.Note {
	if sign == barrier.Alerted {
		return p.fail(api.ErrAlerted)
	}
	c, e := p.room.Claim(p.ring, p.Wants())
	if e != nil {
		return p.fail(e)
	}
	return p.judge(c)
}

// goOn is a step of the claim.
func (p *Producer) goOn() api.Note {
	c, e := p.claim.Step()
	if e != nil {
		return p.fail(e)
	}
	return p.judge(c)
}

// judge says how it goes on, by how far the claim came.
func (p *Producer) judge(c room.Claim) api.Note {
	p.claim = c
	switch {
	case !c.Done():
		return p.silent(claim)
	case c.Full():
		return p.vain()
	}
	p.next = p.first()
	return p.silent(put)
}

// vain says what it does who found too little room.
func (p *Producer) vain() api.Note {
	if p.calls[0].offer {
		return p.fail(api.ErrFull)
	}
	patience, act := p.patience.Vain(p.room.Clock().Now())
	p.patience = patience
	switch act {
	case wait.Rest:
		return p.silent(rest)
	case wait.Enlist:
		return p.silent(enlist)
	case wait.Park:
		return p.silent(park)
	case wait.GiveUp:
		return p.fail(api.ErrTimeout)
	}
	return p.silent(look)
}

// put lays one event more at its index.
func (p *Producer) put() api.Note {
	p.room.Slots(p.ring).Put(p.next, p.calls[0].events[p.next-p.first()])
	if p.next < p.claim.Last() {
		p.next++
		return p.silent(put)
	}
	p.next = p.first()
	return p.silent(show)
}

// show publishes as much as one step can.
func (p *Producer) show() api.Note {
	next, e := p.room.Show(p.ring, p.next, p.claim.Last())
	// That is only where somebody else claims from a ring of one.
	if e != nil {
		return p.fail(e)
	}
	n := p.note(api.Shown)
	n.Lo, n.Seq = p.next, next-1
	p.next = next
	if next > p.claim.Last() {
		p.at = signal
	}
	return n
}

// finish tells all who wait for news, and ends the call.
func (p *Producer) finish() api.Note {
	p.room.Signal(p.ring)
	n := p.note(api.Returned)
	n.Lo, n.Seq = p.first(), p.claim.Last()
	p.end()
	return n
}

// fail ends the call by an error.
func (p *Producer) fail(e error) api.Note {
	n := p.note(api.Returned)
	errors.As(e, &n.Code)
	p.end()
	return n
}

// end lets the first call go.
func (p *Producer) end() {
	p.calls = slices.Delete(p.calls, 0, 1)
	p.at = idle
}

// first is the call's first index, of those that were claimed.
func (p *Producer) first() int64 { return p.claim.Last() - int64(p.Wants()) + 1 }

// sign is what the alert has.
func (p *Producer) sign() int64 {
	// The cell is there from New on.
	n, _ := p.room.Arena().Load(p.alert)
	return n
}

// silent is the note of a step that shows nothing; another one is next.
func (p *Producer) silent(next stage) api.Note {
	p.at = next
	return p.note(api.Silent)
}

// note is what can be seen of a step.
func (p *Producer) note(d api.Deed) api.Note {
	return api.Note{Who: p.who, Ring: p.ring, Deed: d}
}
