package room

import (
	"noria/actor"
	"noria/api"
	"noria/fault"
	"slices"
)

// Enlist lets an actor be told when there is news of a ring.
func (r *Room) Enlist(ring, who int) error {
	g, e := r.find("enlist", ring)
	if e != nil {
		return e
	}
	if e := r.live("enlist", who); e != nil {
		return e
	}
	if !slices.Contains(g.waiting, who) {
		g.waiting = append(g.waiting, who)
	}
	return nil
}

// Waiting are those who will be told, as they came.
func (r *Room) Waiting(ring int) []int { return slices.Clone(r.look(ring).waiting) }

// Signal wakes all who wait for news of a ring; how many were parked.
func (r *Room) Signal(ring int) (int, error) {
	g, e := r.find("signal", ring)
	if e != nil {
		return 0, e
	}
	n := 0
	for _, who := range g.waiting {
		// Who was halted since it came is refused, and passed over.
		if parked, e := r.Wake(who); e == nil && parked {
			n++
		}
	}
	g.waiting = nil
	return n, nil
}

// Park parks an actor, with a deadline or without one; whether it is parked.
func (r *Room) Park(who int, deadline int64) (bool, error) {
	if r == nil {
		return false, fault.Wrap("park", int64(who), api.ErrNil)
	}
	if deadline < 0 || deadline > api.MaxTime {
		return false, fault.Wrap("park", deadline, api.ErrRange)
	}
	if e := r.live("park", who); e != nil {
		return false, e
	}
	if deadline != 0 && r.clock.Now() >= deadline {
		return false, nil
	}
	// Who was woken while it was ready doesn't park, and needs no timer.
	if deadline == 0 || r.actors.Token(who) {
		return r.actors.Park(who)
	}
	r.clock.Drop(who)
	// The timer comes first: if there is no place for it, the actor isn't parked, and so never left asleep.
	if e := r.clock.Set(deadline, who); e != nil {
		return false, fault.Wrap("park", int64(who), e)
	}
	return r.actors.Park(who)
}

// Wake wakes an actor; whether it was parked.
func (r *Room) Wake(who int) (bool, error) {
	if r == nil {
		return false, fault.Wrap("wake", int64(who), api.ErrNil)
	}
	parked, e := r.actors.Wake(who)
	if e != nil {
		return false, e
	}
	r.clock.Drop(who)
	return parked, nil
}

// Tick lets so much time go by; who is woken by it.
func (r *Room) Tick(d int64) ([]int, error) {
	if r == nil {
		return nil, fault.Wrap("tick", d, api.ErrNil)
	}
	l, e := r.clock.Tick(d)
	if e != nil {
		return nil, e
	}
	for _, who := range l {
		r.Wake(who)
	}
	return l, nil
}

// Halt lets an actor do nothing any more.
func (r *Room) Halt(who int) error {
	if r == nil {
		return fault.Wrap("halt", int64(who), api.ErrNil)
	}
	if e := r.actors.Halt(who); e != nil {
		return e
	}
	r.clock.Drop(who)
	return nil
}

// live refuses an actor that isn't there, or is halted.
func (r *Room) live(op string, who int) error {
	if who < 0 || who >= r.actors.Len() {
		return fault.Wrap(op, int64(who), api.ErrNone)
	}
	if r.actors.State(who) == actor.Halted {
		return fault.Wrap(op, int64(who), api.ErrHalted)
	}
	return nil
}
