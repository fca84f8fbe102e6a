package model

import (
	"noria/api"
)

// reader is an actor that handles what is published in a log, by itself or as one of a pool.
type reader struct {
	log    *log
	ahead  []*reader
	cursor int64
	left   bool
	// Its next index, and what that was when its last call returned.
	next, since int64
	// Those with whom it shares the indexes; nil: it handles by itself.
	pool *pool
}

// pool are readers that share the indexes of a log from one on.
type pool struct {
	// What is over: all that is below next, as it is handled, or ahead of their start; and some that is handled beyond that.
	next   int64
	beyond map[int64]struct{}
}

// take lets what was seen of a reader happen, if it may.
func (r *reader) take(n api.Note) error {
	switch n.Deed {
	case api.Handled:
		return r.handle(n)
	case api.Moved:
		return r.move(n)
	case api.Returned:
		return r.end(n)
	case api.Left:
		if r.left || n.Seq != r.cursor {
			return api.ErrArg
		}
		r.left = true
		return nil
	case api.Late:
		if n.Seq <= r.cursor {
			return api.ErrArg
		}
		return nil
	case api.Stopped:
		return nil
	}
	return api.ErrArg
}

// handle handles an event.
func (r *reader) handle(n api.Note) error {
	x, ok := r.log.at(n.Seq)
	switch {
	case n.Lo != n.Seq || !ok:
		return api.ErrNone
	case x != n.X:
		return api.ErrForm
	case r.gated(n.Seq):
		return api.ErrGating
	case r.pool == nil && n.Seq != r.next:
		return api.ErrArg
	case r.pool != nil && r.pool.over(n.Seq):
		return api.ErrThere
	}
	if r.pool != nil {
		r.pool.add(n.Seq)
	} else {
		r.next++
	}
	return nil
}

// gated says whether one ahead isn't done with an index yet.
func (r *reader) gated(i int64) bool {
	for _, a := range r.ahead {
		if a.pool == nil && a.cursor < i {
			return true
		}
		if a.pool != nil && !a.pool.over(i) {
			return true
		}
	}
	return false
}

// move lets a reader be done with more.
func (r *reader) move(n api.Note) error {
	if n.Lo != r.cursor+1 || n.Seq < n.Lo || r.pool == nil && n.Seq != r.next-1 {
		return api.ErrArg
	}
	if _, ok := r.log.at(n.Seq); !ok {
		return api.ErrNone
	}
	r.cursor = n.Seq
	return nil
}

// end ends a call of one who asks.
func (r *reader) end(n api.Note) error {
	switch {
	case r.pool != nil:
		return api.ErrArg
	case n.Code != 0 && r.next != r.since:
		return api.ErrBusy
	case n.Code == 0 && (n.Lo != r.since || n.Seq != r.next-1 || n.Seq < n.Lo || n.Seq != r.cursor):
		return api.ErrArg
	}
	r.since = r.next
	return nil
}

// over says whether one of a pool has handled an index, or it is ahead of the pool's start.
func (p *pool) over(i int64) bool {
	_, ok := p.beyond[i]
	return ok || i < p.next
}

// add is an index more that one of a pool has handled.
func (p *pool) add(i int64) {
	if p.beyond == nil {
		p.beyond = map[int64]struct{}{}
	}
	p.beyond[i] = struct{}{}
	for {
		if _, ok := p.beyond[p.next]; !ok {
			return
		}
		delete(p.beyond, p.next)
		p.next++
	}
}
