package exchange

import (
	"noria/actor"
	"noria/api"
	"noria/barrier"
	"noria/fault"
)

// Send lets a producer send events, and wait till there is room.
func (x *Exchange) Send(who int, l ...api.Event) error {
	m, e := x.ask("send", who, Producer)
	if e != nil {
		return e
	}
	return m.producer.Send(l...)
}

// Offer lets a producer send events, if there is room.
func (x *Exchange) Offer(who int, l ...api.Event) error {
	m, e := x.ask("offer", who, Producer)
	if e != nil {
		return e
	}
	return m.producer.Offer(l...)
}

// Poll lets a poller handle some events, as many as are there.
func (x *Exchange) Poll(who, n int) error {
	m, e := x.ask("poll", who, Poller)
	if e != nil {
		return e
	}
	return m.poller.Poll(n)
}

// Receive lets a poller handle one event, and wait till it is there.
func (x *Exchange) Receive(who int) error {
	m, e := x.ask("receive", who, Poller)
	if e != nil {
		return e
	}
	return m.poller.Receive()
}

// Select lets a chooser ask its rings, from one of them on.
func (x *Exchange) Select(who, from int) error {
	m, e := x.ask("select", who, Chooser)
	if e != nil {
		return e
	}
	return m.chooser.Select(from)
}

// Alert lets an actor stop, or end its calls, as soon as it looks.
func (x *Exchange) Alert(who int) error { return x.tell("alert", who, barrier.Alerted) }

// Clear takes an alert back.
func (x *Exchange) Clear(who int) error { return x.tell("clear", who, barrier.Quiet) }

// Drain lets an actor stop, as soon as there is nothing to do.
func (x *Exchange) Drain(who int) error { return x.tell("drain", who, barrier.Drain) }

// tell lets an actor's alert have a number, and wakes it, so that it reads that.
func (x *Exchange) tell(op string, who int, sign int64) error {
	m, e := x.find(op, who)
	if e != nil {
		return e
	}
	switch {
	case x.State(who) == actor.Halted:
		return fault.Wrap(op, int64(who), api.ErrHalted)
	case m.removed:
		return fault.Wrap(op, int64(who), api.ErrThere)
	}
	if e := x.room.Arena().Store(m.Alert(), sign); e != nil {
		return fault.Wrap(op, int64(who), e)
	}
	_, e = x.room.Wake(who)
	return e
}

// Remove lets an actor stop, and hold nobody back then, if nobody is behind it; what could be seen.
func (x *Exchange) Remove(who int) (api.Note, error) {
	m, e := x.find("remove", who)
	if e != nil {
		return api.Note{}, e
	}
	switch {
	case m.kind == Producer || m.kind == Worker:
		return api.Note{}, fault.Wrap("remove", int64(who), api.ErrArg)
	case m.removed:
		return api.Note{}, fault.Wrap("remove", int64(who), api.ErrThere)
	case len(x.graph.Behind(m.node)) > 0:
		return api.Note{}, fault.Wrap("remove", int64(who), api.ErrBusy)
	}
	n, e := m.leave()
	if e != nil {
		return api.Note{}, e
	}
	// Nobody is behind it, and so its node isn't refused.
	x.graph.Drop(m.node)
	m.removed = true
	return n, nil
}

// Tick lets so much time go by; who is woken by it.
func (x *Exchange) Tick(d int64) ([]int, error) { return x.Room().Tick(d) }

// Step does one step more of an actor; what could be seen of it.
func (x *Exchange) Step(who int) (api.Note, error) {
	m, e := x.find("step", who)
	if e != nil {
		return api.Note{}, e
	}
	return m.Step()
}
