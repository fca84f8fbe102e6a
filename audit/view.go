package audit

import (
	"math"
	"noria/exchange"
	"noria/pool"
	"slices"
)

// view is an exchange, and what its cells have at this moment.
type view struct {
	*exchange.Exchange
	tell func(id int) (int64, error)
}

// stand is how an actor stands at a ring: whether it holds it back, what it is done with, and what the ring's cursor has.
type stand struct {
	who, ring  int
	held       bool
	at, cursor int64
}

// look is an exchange as it is now. A copy of the cells is read: a load is a step, and who only looks does none.
func look(x *exchange.Exchange) view { return view{x, x.Room().Arena().Clone().Load} }

// most is how many numbers may be those of actors: there may be others in the room than those of the exchange.
func (v view) most() int { return v.Room().Actors().Len() }

// load is what a cell has; 0, if it isn't there.
func (v view) load(id int) int64 {
	n, _ := v.tell(id)
	return n
}

// stand is how an actor stands at a ring.
func (v view) stand(who, ring int) stand {
	id := v.Cell(who, ring)
	return stand{
		who: who, ring: ring,
		held:   slices.Contains(v.Room().Gate(ring).Cells(), id),
		at:     v.load(id),
		cursor: v.load(v.Room().Cursor(ring)),
	}
}

// free says whether one has the number by which nobody is held back.
func (s stand) free() bool { return s.at == pool.Free }

// less is a number less another one, or the end of its type, where that would be beyond it.
func less(a, b int64) int64 {
	switch {
	case b > 0 && a < math.MinInt64+b:
		return math.MinInt64
	case b < 0 && a > math.MaxInt64+b:
		return math.MaxInt64
	}
	return a - b
}
