package runner

import (
	"noria/actor"
	"noria/api"
	"noria/fault"
	"noria/room"
)

// Pick lets the actor step that any number picks among those that are ready: which one; false: none is.
func (r *Runner) Pick(n int) (int, bool) {
	who, e := r.pick(n)
	return who, e == nil
}

// Run lets actors step by picks; how many steps that were.
func (r *Runner) Run(picks ...int) int {
	done := 0
	for _, n := range picks {
		if _, ok := r.Pick(n); ok {
			done++
		}
	}
	return done
}

// Round lets each actor step once that is ready when its turn comes, in order; how many did.
func (r *Runner) Round() int {
	done := 0
	for who := range r.room().Actors().Len() {
		if r.room().Actors().State(who) == actor.Ready && r.step(who) == nil {
			done++
		}
	}
	return done
}

// Settle plays rounds till all is at rest, so many at most; how many, and whether it is.
func (r *Runner) Settle(most int) (int, bool) {
	for n := range most {
		if r.Over() {
			return n, true
		}
		if r.Round() == 0 {
			return n, false
		}
	}
	return max(most, 0), r.Over()
}

// room is what the actors share.
func (r *Runner) room() *room.Room { return r.Exchange().Room() }

// pick lets the actor step that a number picks: which one.
func (r *Runner) pick(n int) (int, error) {
	who, ok := r.room().Actors().Legal(n)
	if !ok {
		return 0, fault.Wrap("pick", int64(n), api.ErrIdle)
	}
	if e := r.step(who); e != nil {
		return 0, e
	}
	return who, nil
}

// step lets an actor step.
func (r *Runner) step(who int) error {
	n, e := r.exchange.Step(who)
	if e != nil {
		return e
	}
	r.steps++
	r.see(n)
	return nil
}
