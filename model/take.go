package model

import (
	"noria/api"
	"noria/fault"
)

// Take lets what was seen happen, if it may.
func (m *Model) Take(n api.Note) error {
	if m == nil {
		return fault.Wrap("take", n.Seq, api.ErrNil)
	}
	l, p := m.log(n.Ring), m.actors[n.Who]
	if l == nil || p == nil {
		return fault.Wrap("take", int64(n.Ring), api.ErrNone)
	}
	return fault.Wrap("take", n.Seq, p.take(l, n))
}

// take lets what was seen of an actor at a log happen, if it may.
func (p *party) take(l *log, n api.Note) error {
	r := p.readers[n.Ring]
	writes := p.writer != nil && p.writer.log == l
	if !writes && r == nil {
		return api.ErrNone
	}
	// Who has stopped may be taken out of those who hold back by another one.
	if p.stopped && (writes || n.Deed != api.Left) {
		return api.ErrHalted
	}
	var e error
	if writes {
		e = p.writer.take(n)
	} else {
		e = r.take(n)
	}
	if e == nil && n.Deed == api.Stopped {
		p.stopped = true
	}
	return e
}
