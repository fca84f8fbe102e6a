package runner

import (
	"noria/actor"
	"noria/api"
	"noria/barrier"
	"noria/exchange"
	"noria/pool"
)

// load tells what a cell has.
type load func(id int) (int64, error)

// mostSent is how many events count at most in how long it takes to come to rest.
const mostSent = int64(1) << 20

// Over says whether all is at rest: no calls, and all that is published is handled by all who aren't halted.
func (r *Runner) Over() bool {
	x := r.Exchange()
	var l []int
	for who := range x.Room().Actors().Len() {
		if x.State(who) == actor.Halted {
			continue
		}
		if x.Pending(who) > 0 {
			return false
		}
		l = append(l, who)
	}
	tell := peek(x)
	for _, who := range l {
		if lags(x, tell, who) {
			return false
		}
	}
	return true
}

// Free says whether nobody holds up: whoever holds a ring back goes on by itself, and isn't told to stop.
func (r *Runner) Free() bool {
	x := r.Exchange()
	for who := range x.Room().Actors().Len() {
		if holds(x, who) {
			return false
		}
	}
	return true
}

// Bound is how many rounds are enough to come to rest.
func (r *Runner) Bound() int {
	x := r.Exchange()
	calls, slots := 0, int64(1)
	for who := range x.Room().Actors().Len() {
		calls += x.Pending(who)
	}
	for ring := range x.Room().Rings() {
		slots = max(slots, x.Room().Slots(ring).Size().Slots())
	}
	return 4 * (x.Len() + 1) * (int(sent(x)) + 65*(calls+1)) * (4*int(slots) + 400)
}

// peek tells what cells have now. A copy is asked: a load is a step, and who only asks does none.
func peek(x *exchange.Exchange) load { return x.Room().Arena().Clone().Load }

// lags says whether an actor that handles by itself has something to do yet.
func lags(x *exchange.Exchange, tell load, who int) bool {
	k, ok := x.Kind(who)
	if !ok || k != exchange.Consumer && k != exchange.Worker {
		return false
	}
	ring := x.Rings(who)[0]
	n, e := tell(x.Cell(who, ring))
	// There is no index behind Free, which is the greatest number.
	return e == nil && n != pool.Free && published(x, tell, ring, n+1)
}

// published says whether an index is, as layer 14 says it: of a ring of many its own call would count steps.
func published(x *exchange.Exchange, tell load, ring int, seq int64) bool {
	g := x.Room()
	if !g.Many(ring) {
		hi, e := g.Published(ring, seq)
		return e == nil && hi >= seq
	}
	last, e := tell(g.Cursor(ring))
	if e != nil || seq < 0 || seq > min(last, api.MaxSeq) {
		return false
	}
	round, e := tell(g.Shown(ring).Cell(seq))
	return e == nil && round == g.Shown(ring).Round(seq)
}

// holds says whether an actor holds up: it may hold a ring back that it doesn't go on with, or stop ahead of its calls' ends.
func holds(x *exchange.Exchange, who int) bool {
	halted := x.State(who) == actor.Halted
	switch k, ok := x.Kind(who); {
	case !ok:
		return false
	case k == exchange.Poller || k == exchange.Chooser:
		return !x.Left(who)
	case k == exchange.Consumer:
		return !x.Left(who) && (halted || warned(x, who))
	case k == exchange.Worker:
		return halted || warned(x, who)
	}
	return !halted && warned(x, who)
}

// warned says whether an actor is told to stop.
func warned(x *exchange.Exchange, who int) bool {
	return x.Ends(who) || x.Told(who) != barrier.Quiet
}

// sent is how many indexes the cursors of all rings are behind, as far as they count.
func sent(x *exchange.Exchange) int64 {
	all, tell := int64(0), peek(x)
	for ring := range x.Room().Rings() {
		n, e := tell(x.Room().Cursor(ring))
		if e != nil {
			continue
		}
		// Each by itself isn't above what counts, so that the sum isn't beyond the ends of its type.
		all = min(all+min(max(n, -1), mostSent-1)+1, mostSent)
	}
	return all
}
