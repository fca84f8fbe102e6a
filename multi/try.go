package multi

import (
	"noria/api"
	"noria/fault"
	"noria/gate"
	"noria/pow"
)

// stage is what a Try does next, or how it ended.
type stage int

// The stages: a zero Try claims nothing; behind those at which there is something to do stand the two ends.
const (
	nothing stage = iota
	readCursor
	readCached
	readHolders
	storeCached
	swapCursor
	got
	full
)

// Try is how far one came in claiming, step by step.
type Try struct {
	seq *Sequencer
	n   int
	at  stage
	// What the cursor's cell had, and the last index of the claim behind that.
	had, last int64
	scan      gate.Scan
}

// Try begins to claim so many indexes.
func (s *Sequencer) Try(n int) (Try, error) {
	if s == nil {
		return Try{}, fault.Wrap("try", int64(n), api.ErrNil)
	}
	if n < 1 || int64(n) > s.size.Slots() {
		return Try{}, fault.Wrap("try", int64(n), api.ErrArg)
	}
	return s.anew(n), nil
}

// anew is a Try that has read nothing.
func (s *Sequencer) anew(n int) Try { return Try{seq: s, n: n, at: readCursor} }

// Done says whether it is over.
func (t Try) Done() bool { return t.at == nothing || t.at == got || t.at == full }

// Full says whether there was no room.
func (t Try) Full() bool { return t.at == full }

// Last is the last index that it claimed; -1: it claimed none.
func (t Try) Last() int64 {
	if t.at != got {
		return none
	}
	return t.last
}

// Step reads or writes one cell more.
func (t Try) Step() (Try, error) {
	next, e := t.next()
	if e != nil {
		return t, fault.Wrap("try", t.last, e)
	}
	return next, nil
}

// next is the Try behind its next step; beside an error it is of no use.
func (t Try) next() (Try, error) {
	switch t.at {
	case readCursor:
		return t.begin()
	case readCached:
		return t.recall()
	case readHolders:
		return t.look()
	case storeCached:
		return t.remember()
	case swapCursor:
		return t.swap()
	default:
		return t, nil
	}
}

// begin reads what is claimed.
func (t Try) begin() (Try, error) {
	had, e := t.seq.arena.Load(t.seq.cursor)
	if e != nil {
		return t, e
	}
	last, e := pow.Next(had, t.n)
	t.had, t.last, t.at = had, last, readCached
	return t, e
}

// recall reads what was seen last.
func (t Try) recall() (Try, error) {
	seen, e := t.seq.arena.Load(t.seq.cached)
	if e != nil {
		return t, e
	}
	// Above what was claimed it tells of a time behind that, when others had claimed more.
	if seen <= t.had && t.seq.enough(seen, t.last) {
		t.at = swapCursor
		return t, nil
	}
	t.scan = t.seq.group.Scan(t.had)
	return t.judge(), nil
}

// look reads the cell of one more who holds back.
func (t Try) look() (Try, error) {
	scan, e := t.scan.Step(t.seq.arena)
	if e != nil {
		return t, e
	}
	t.scan = scan
	return t.judge(), nil
}

// judge says how it goes on, by what was read of those who hold back.
func (t Try) judge() Try {
	switch {
	case !t.scan.Done():
		t.at = readHolders
	case t.seq.enough(t.scan.Least(), t.last):
		t.at = storeCached
	default:
		t.at = full
	}
	return t
}

// remember stores the least as what was seen last.
func (t Try) remember() (Try, error) {
	t.at = swapCursor
	return t, t.seq.arena.Store(t.seq.cached, t.scan.Least())
}

// swap claims the indexes, if nobody has claimed any since the cursor's cell was read.
func (t Try) swap() (Try, error) {
	ok, e := t.seq.arena.Swap(t.seq.cursor, t.had, t.last)
	if e != nil {
		return t, e
	}
	if !ok {
		return t.seq.anew(t.n), nil
	}
	t.seq.swapped = t.last
	t.at = got
	return t, nil
}
