package model

import (
	"noria/api"
)

// farthest is how far an index of a log of many may be above the greatest one that is published, at most.
const farthest = 8193

// writer is an actor that sends to a log.
type writer struct {
	log *log
	// The calls that haven't ended; the first one goes on.
	calls [][]api.Event
	// How many events of the first call are published, and the index of its first event, if any is.
	shown int
	first int64
}

// take lets what was seen of a writer happen, if it may.
func (w *writer) take(n api.Note) error {
	switch {
	case n.Deed == api.Stopped && len(w.calls) > 0:
		return api.ErrBusy
	case n.Deed == api.Stopped:
		return nil
	case n.Deed != api.Shown && n.Deed != api.Returned:
		return api.ErrArg
	case len(w.calls) == 0:
		return api.ErrIdle
	case n.Deed == api.Returned:
		return w.end(n)
	}
	return w.show(n)
}

// show publishes events of the call that goes on.
func (w *writer) show(n api.Note) error {
	if n.Lo < 0 || n.Lo > n.Seq || n.Seq > api.MaxSeq {
		return api.ErrRange
	}
	if !w.fits(n.Lo, n.Seq-n.Lo+1) {
		return api.ErrArg
	}
	if !w.near(n.Lo) {
		return api.ErrGating
	}
	if w.log.held(n.Seq) {
		return api.ErrFull
	}
	for i := n.Lo; i <= n.Seq; i++ {
		if _, ok := w.log.at(i); ok {
			return api.ErrThere
		}
	}
	if w.shown == 0 {
		w.first = n.Lo
	}
	for i := n.Lo; i <= n.Seq; i++ {
		w.log.put(i, w.calls[0][w.shown])
		w.shown++
	}
	return nil
}

// fits says whether so many indexes, from one on, may be the next ones of the call.
func (w *writer) fits(from, count int64) bool {
	whole := len(w.calls[0])
	switch {
	case w.shown > 0 && from != w.next():
		return false
	case count > int64(whole-w.shown):
		return false
	case w.log.many:
		return count == 1
	}
	return count == int64(whole)
}

// next is the index behind those of the call that are published.
func (w *writer) next() int64 { return w.first + int64(w.shown) }

// near says whether an index may be the next one that is published, by those that are.
func (w *writer) near(from int64) bool {
	if w.log.many {
		return from-(w.log.top-1) <= farthest
	}
	return from == w.log.top
}

// end ends the call that goes on.
func (w *writer) end(n api.Note) error {
	switch {
	case n.Code != 0 && w.shown > 0:
		return api.ErrBusy
	case n.Code == 0 && (w.shown < len(w.calls[0]) || n.Lo != w.first || n.Seq != w.next()-1):
		return api.ErrArg
	}
	w.calls[0] = nil
	w.calls = w.calls[1:]
	w.shown = 0
	return nil
}
