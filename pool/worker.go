package pool

import (
	"noria/actor"
	"noria/api"
	"noria/barrier"
	"noria/fault"
	"noria/room"
	"noria/wait"
)

// Worker handles the events that it takes, one by one, a step at a time.
type Worker struct {
	room *room.Room
	ring int
	way  wait.Way
	who  int
	// The cell that all workers share, and what was read of it.
	shared int
	taken  int64
	// Its own cell, and what that has, or had ahead of Free: a load of it would be a step more.
	cell    int
	held    int64
	barrier *barrier.Barrier
	at      stage
	// How far it came in looking, and how long it waits already.
	probe    barrier.Probe
	patience wait.Patience
}

// Who is a worker's number among the actors.
func (x *Worker) Who() int {
	if x == nil {
		return -1
	}
	return x.who
}

// Cell is a worker's own cell.
func (x *Worker) Cell() int {
	if x == nil {
		return -1
	}
	return x.cell
}

// Alert is the cell that tells whether a worker should stop.
func (x *Worker) Alert() int {
	if x == nil {
		return -1
	}
	return x.barrier.Alert()
}

// Ends says whether a worker may stop, though it isn't told any more.
func (x *Worker) Ends() bool {
	if x == nil {
		return false
	}
	switch x.at {
	case look:
		return x.probe.Sign() != barrier.Quiet
	case free, bell, stop:
		return true
	}
	return false
}

// Step does one step more; what could be seen of it.
func (x *Worker) Step() (api.Note, error) {
	if x == nil {
		return api.Note{}, fault.Wrap("step", -1, api.ErrNil)
	}
	switch x.room.Actors().State(x.who) {
	case actor.Halted:
		return api.Note{}, fault.Wrap("step", int64(x.who), api.ErrHalted)
	case actor.Parked:
		return api.Note{}, fault.Wrap("step", int64(x.who), api.ErrBusy)
	}
	return x.step(), nil
}
