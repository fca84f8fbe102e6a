package exchange

import (
	"noria/actor"
	"noria/barrier"
	"noria/pool"
	"slices"
)

// Kind is what an actor does; false: there is none.
func (x *Exchange) Kind(who int) (Kind, bool) {
	m := x.look(who)
	if m == nil {
		return 0, false
	}
	return m.kind, true
}

// Rings are the rings of an actor.
func (x *Exchange) Rings(who int) []int {
	m := x.look(who)
	if m == nil {
		return nil
	}
	l := make([]int, 0, len(m.spots))
	for _, s := range m.spots {
		l = append(l, s.ring)
	}
	return l
}

// Behind says whether an actor is behind another one, directly or by others.
func (x *Exchange) Behind(who, ahead int) bool {
	m, n := x.look(who), x.look(ahead)
	return m != nil && n != nil && slices.Contains(x.graph.Reach(m.node), n.node)
}

// Pending is how many calls of an actor haven't ended.
func (x *Exchange) Pending(who int) int {
	m := x.look(who)
	if m == nil {
		return 0
	}
	return m.producer.Pending() + m.poller.Pending() + m.chooser.Pending()
}

// Left says whether an actor that held a ring back holds none back any more.
func (x *Exchange) Left(who int) bool {
	m := x.look(who)
	switch {
	case m == nil:
		return false
	case m.kind == Worker:
		return x.peek(m.worker.Cell()) == pool.Free
	}
	return m.consumer.Left() || m.poller.Left() || m.chooser.Left()
}

// Cell is the cell that tells what an actor is done with, at a ring of its.
func (x *Exchange) Cell(who, ring int) int {
	if m := x.look(who); m != nil {
		if s, ok := m.spot(ring); ok {
			return s.cell
		}
	}
	return -1
}

// Start is the first index of a ring that an actor handles.
func (x *Exchange) Start(who, ring int) int64 {
	m := x.look(who)
	if m == nil {
		return 0
	}
	// At a ring that isn't its there is none.
	s, _ := m.spot(ring)
	return s.start
}

// Told is what an actor's alert has; Quiet, if there is none.
func (x *Exchange) Told(who int) int64 {
	m := x.look(who)
	if m == nil {
		return barrier.Quiet
	}
	return x.peek(m.Alert())
}

// Ends says whether an actor that handles by itself may stop, though it isn't told any more.
func (x *Exchange) Ends(who int) bool {
	m := x.look(who)
	return m != nil && (m.consumer.Ends() || m.worker.Ends())
}

// State is an actor's state.
func (x *Exchange) State(who int) actor.State {
	if x.look(who) == nil {
		return actor.Halted
	}
	return x.room.Actors().State(who)
}

// peek is what a cell has that is there. A copy is asked: a load is a step, and who only asks does none.
func (x *Exchange) peek(id int) int64 {
	n, _ := x.room.Arena().Clone().Load(id)
	return n
}
