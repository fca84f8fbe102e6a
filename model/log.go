package model

import (
	"noria/api"
)

// log is what is published at one ring, without an end.
type log struct {
	size int64
	many bool
	// What is published from 0 on, one behind the other, and what is behind a gap.
	events []api.Event
	beyond map[int64]api.Event
	// One more than the greatest index that is published.
	top     int64
	readers []*reader
}

// at is what is published at an index; false: nothing is.
func (l *log) at(i int64) (api.Event, bool) {
	if i >= 0 && i < int64(len(l.events)) {
		return l.events[i], true
	}
	x, ok := l.beyond[i]
	return x, ok
}

// put publishes an event at an index.
func (l *log) put(i int64, x api.Event) {
	if l.beyond == nil {
		l.beyond = map[int64]api.Event{}
	}
	l.beyond[i] = x
	l.top = max(l.top, i+1)
	for {
		first := int64(len(l.events))
		x, ok := l.beyond[first]
		if !ok {
			return
		}
		delete(l.beyond, first)
		l.events = append(l.events, x)
	}
}

// held says whether a reader is so far behind that the slot of an index isn't free.
func (l *log) held(i int64) bool {
	if i < 0 {
		return false
	}
	for _, r := range l.readers {
		if !r.left && r.cursor < i-l.size {
			return true
		}
	}
	return false
}
