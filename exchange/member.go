package exchange

import (
	"noria/actor"
	"noria/api"
	"noria/chooser"
	"noria/consumer"
	"noria/fault"
	"noria/poller"
	"noria/pool"
	"noria/producer"
	"slices"
)

// machine is what actors of all kinds have, and do, alike.
type machine interface {
	Who() int
	Alert() int
	Step() (api.Note, error)
}

// member is an actor of an exchange.
type member struct {
	machine
	kind Kind
	// Its rings, as they were named.
	spots []spot
	// Its node in the graph, where it stays as long as it wasn't removed.
	node    int
	removed bool
	// What it is, of a worker its pool, too. What it isn't is nil, and answers for nothing.
	producer *producer.Producer
	consumer *consumer.Consumer
	pool     *pool.Pool
	worker   *pool.Worker
	poller   *poller.Poller
	chooser  *chooser.Chooser
}

// spot is a ring of an actor, the cell that tells there what it is done with (-1: none), and the first index that it handles.
type spot struct {
	ring, cell int
	start      int64
}

// look is an actor; nil: it isn't there.
func (x *Exchange) look(who int) *member {
	if x == nil {
		return nil
	}
	i := slices.IndexFunc(x.list, func(m *member) bool { return m.Who() == who })
	if i < 0 {
		return nil
	}
	return x.list[i]
}

// find is the one way to an actor that is to do something.
func (x *Exchange) find(op string, who int) (*member, error) {
	if x == nil {
		return nil, fault.Wrap(op, int64(who), api.ErrNil)
	}
	m := x.look(who)
	if m == nil {
		return nil, fault.Wrap(op, int64(who), api.ErrNone)
	}
	return m, nil
}

// ask is the one way to an actor that is to have a call, which those of one kind take.
func (x *Exchange) ask(op string, who int, k Kind) (*member, error) {
	m, e := x.find(op, who)
	if e != nil {
		return nil, e
	}
	if m.kind != k {
		return nil, fault.Wrap(op, int64(who), api.ErrArg)
	}
	return m, nil
}

// ahead are those who are named as being ahead on a ring, with a worker its whole pool, and the cells behind which one is who is behind them.
func (x *Exchange) ahead(op string, ring int, named []int) (l []*member, ids []int, e error) {
	if e := x.open(op, ring); e != nil {
		return nil, nil, e
	}
	for _, who := range named {
		m, e := x.find(op, who)
		if e != nil {
			return nil, nil, e
		}
		_, here := m.spot(ring)
		switch {
		case m.kind == Producer || m.kind == Chooser || !here:
			return nil, nil, fault.Wrap(op, int64(who), api.ErrArg)
		case m.removed || x.State(who) == actor.Halted:
			return nil, nil, fault.Wrap(op, int64(who), api.ErrHalted)
		case slices.Contains(l, m):
			return nil, nil, fault.Wrap(op, int64(who), api.ErrThere)
		}
		l, ids = append(l, x.mates(m)...), append(ids, m.cells()...)
	}
	return l, ids, nil
}

// mates are all workers of an actor's pool, or it alone.
func (x *Exchange) mates(m *member) []*member {
	if m.kind != Worker {
		return []*member{m}
	}
	var l []*member
	for _, y := range x.list {
		if y.pool == m.pool {
			l = append(l, y)
		}
	}
	return l
}

// cells are the cells behind which one is who is behind an actor.
func (m *member) cells() []int {
	if m.kind == Worker {
		return m.pool.Cells()
	}
	return []int{m.spots[0].cell}
}

// spot is how an actor stands at a ring; false: it isn't one of its.
func (m *member) spot(ring int) (spot, bool) {
	for _, s := range m.spots {
		if s.ring == ring {
			return s, true
		}
	}
	return spot{}, false
}

// leave lets an actor stop, and hold nobody back then; what could be seen.
func (m *member) leave() (api.Note, error) {
	switch m.kind {
	case Consumer:
		return m.consumer.Leave()
	case Poller:
		return m.poller.Leave()
	}
	if e := m.chooser.Leave(); e != nil {
		return api.Note{}, e
	}
	return api.Note{Who: m.Who(), Ring: m.spots[0].ring}, nil
}
