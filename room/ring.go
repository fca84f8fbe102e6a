package room

import (
	"noria/cells"
	"noria/fault"
	"noria/gate"
	"noria/multi"
	"noria/single"
	"noria/slots"
)

// ring is a ring's slots, its sequencer, and who waits for news of it.
type ring struct {
	slots *slots.Ring
	// One of both: one claims, or many do.
	one     *single.Sequencer
	many    *multi.Sequencer
	waiting []int
}

// sequencer is what both sequencers tell alike.
type sequencer interface {
	Cursor() int
	Gate() *gate.Group
}

// lay is a new ring, in new cells of an arena, if there are enough left.
func lay(a *cells.Arena, n int, k Kind) (*ring, error) {
	g := &ring{}
	var e error
	if k == Multi {
		g.many, e = multi.New(a, n)
	} else {
		g.one, e = single.New(a, n)
	}
	if e != nil {
		return nil, e
	}
	g.slots, e = slots.New(n)
	return g, e
}

// sequencer is the one that there is.
func (g ring) sequencer() sequencer {
	if g.many != nil {
		return g.many
	}
	return g.one
}

// publish publishes all up to an index, if one claims, or the first one alone, if many do: the last one that it publishes.
func (g ring) publish(at, hi int64) (int64, error) {
	if g.many != nil {
		return at, g.many.Publish(at, at)
	}
	return hi, g.one.Publish(hi)
}

// published is the last index, from one on, up to which all are published.
func (g ring) published(from int64) (int64, error) {
	if g.many != nil {
		return g.many.Highest(from)
	}
	return max(from-1, g.one.Published()), nil
}

// Claim is how far one came in claiming, step by step.
type Claim struct {
	many bool
	one  single.Try
	all  multi.Try
}

// Claim begins to claim so many indexes of a ring.
func (r *Room) Claim(ring, n int) (Claim, error) {
	g, e := r.find("claim", ring)
	if e != nil {
		return Claim{}, e
	}
	c := Claim{many: g.many != nil}
	if c.many {
		c.all, e = g.many.Try(n)
	} else {
		c.one, e = g.one.Try(n)
	}
	if e != nil {
		return Claim{}, fault.Wrap("claim", int64(ring), e)
	}
	return c, nil
}

// Done says whether it is over.
func (c Claim) Done() bool {
	if c.many {
		return c.all.Done()
	}
	return c.one.Done()
}

// Full says whether there was no room.
func (c Claim) Full() bool {
	if c.many {
		return c.all.Full()
	}
	return c.one.Full()
}

// Last is the last index that it claimed; -1: it claimed none.
func (c Claim) Last() int64 {
	if c.many {
		return c.all.Last()
	}
	return c.one.Last()
}

// Step does one thing more to a cell.
func (c Claim) Step() (Claim, error) {
	var e error
	// Beside an error a Try is as it was, and so is the claim.
	if c.many {
		c.all, e = c.all.Step()
	} else {
		c.one, e = c.one.Step()
	}
	return c, fault.Wrap("claim", c.Last(), e)
}
