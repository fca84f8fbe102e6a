package model

import (
	"noria/api"
	"noria/fault"
	"slices"
)

// Writer is an actor that sends to a log.
func (m *Model) Writer(who, ring int) error {
	if e := m.open(ring, 1); e != nil {
		return fault.Wrap("writer", int64(who), e)
	}
	if m.actors[who] != nil {
		return fault.Wrap("writer", int64(who), api.ErrThere)
	}
	m.party(who).writer = &writer{log: m.logs[ring]}
	return nil
}

// Reader is an actor that handles what is published in a log, from an index on, behind some others of that log.
func (m *Model) Reader(who, ring int, start int64, ahead ...int) error {
	if e := m.open(ring, 1); e != nil {
		return fault.Wrap("reader", int64(who), e)
	}
	before, ok := m.before(ring, ahead)
	switch {
	case m.busy(who, ring):
		return fault.Wrap("reader", int64(who), api.ErrThere)
	case !legal(start):
		return fault.Wrap("reader", start, api.ErrRange)
	case !ok:
		return fault.Wrap("reader", int64(ring), api.ErrNone)
	}
	m.read(who, ring, &reader{log: m.logs[ring], cursor: start - 1, next: start, since: start, ahead: before})
	return nil
}

// Pool are actors that share what is published in a log.
func (m *Model) Pool(ring int, start int64, who []int, ahead ...int) error {
	if e := m.open(ring, min(len(who), api.MaxPool)); e != nil {
		return fault.Wrap("pool", int64(ring), e)
	}
	before, ok := m.before(ring, ahead)
	switch {
	case len(who) < 1 || len(who) > api.MaxPool:
		return fault.Wrap("pool", int64(len(who)), api.ErrArg)
	case !legal(start):
		return fault.Wrap("pool", start, api.ErrRange)
	}
	for i, w := range who {
		if m.busy(w, ring) || slices.Contains(who[:i], w) {
			return fault.Wrap("pool", int64(w), api.ErrThere)
		}
	}
	if !ok {
		return fault.Wrap("pool", int64(ring), api.ErrNone)
	}
	all := &pool{next: start}
	for _, w := range who {
		m.read(w, ring, &reader{log: m.logs[ring], cursor: start - 1, ahead: before, pool: all})
	}
	return nil
}

// open says what is wrong with so many writers and readers more of a log.
func (m *Model) open(ring, more int) error {
	switch {
	case m == nil:
		return api.ErrNil
	case m.log(ring) == nil:
		return api.ErrNone
	case m.joined+more > mostJoined:
		return api.ErrMany
	}
	return nil
}

// legal says whether one may begin with an index.
func legal(start int64) bool { return start >= 0 && start <= api.MaxSeq }

// busy says whether an actor writes, or reads a log.
func (m *Model) busy(who, ring int) bool {
	p := m.actors[who]
	return p != nil && (p.writer != nil || p.readers[ring] != nil)
}

// before are the readers of a log that are named, each once; false: one of them doesn't read it.
func (m *Model) before(ring int, ahead []int) ([]*reader, bool) {
	var out []*reader
	named := map[int]int{}
	for _, who := range ahead {
		r := m.reader(who, ring)
		if r == nil {
			return nil, false
		}
		if named[who]++; named[who] == 1 {
			out = append(out, r)
		}
	}
	return out, true
}

// party is an actor, a new one if it wasn't there, that writes or reads once more.
func (m *Model) party(who int) *party {
	// A zero model is one without a log, as a new one.
	if m.actors == nil {
		m.actors = map[int]*party{}
	}
	if m.actors[who] == nil {
		m.actors[who] = &party{readers: map[int]*reader{}}
	}
	m.joined++
	return m.actors[who]
}

// read lets an actor read a log.
func (m *Model) read(who, ring int, r *reader) {
	m.party(who).readers[ring] = r
	m.logs[ring].readers = append(m.logs[ring].readers, r)
}
