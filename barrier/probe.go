package barrier

import (
	"math"
	"noria/api"
	"noria/cells"
	"noria/fault"
	"noria/gate"
)

// stage is which cell a probe reads next.
type stage int

// The stages: at the first one, that of a zero Probe too, there is nothing to read.
const (
	settled stage = iota
	readAlert
	readAhead
	readCursor
	readShown
)

// Probe is how far one came in asking how far one may go.
type Probe struct {
	barrier *Barrier
	at      stage
	next    int64
	sign    int64
	scan    gate.Scan
	// What the cursor had.
	most int64
	// The last index that was found, from the one that is waited for on; till then the one ahead of that.
	found int64
}

// Probe begins to ask how far one may go who waits for an index.
func (b *Barrier) Probe(next int64) Probe {
	p := Probe{barrier: b, at: readAlert, next: next, found: ahead(next)}
	if b == nil {
		p.at = settled
	}
	return p
}

// Done says whether it is settled.
func (p Probe) Done() bool { return p.at == settled }

// Available is up to which index one may go; one less than the one that is waited for, if that isn't there.
func (p Probe) Available() int64 {
	if !p.Done() {
		return ahead(p.next)
	}
	return p.found
}

// Sign is what the alert's cell had.
func (p Probe) Sign() int64 { return p.sign }

// Step reads one cell more.
func (p Probe) Step(a *cells.Arena) (Probe, error) {
	if a == nil {
		return p, fault.Wrap("probe", p.next, api.ErrNil)
	}
	q, e := p.read(a)
	if e != nil {
		return p, fault.Wrap("probe", p.next, e)
	}
	return q, nil
}

// settle does all steps that are left.
func (p Probe) settle(a *cells.Arena) (Probe, error) {
	for !p.Done() {
		q, e := p.Step(a)
		if e != nil {
			return p, e
		}
		p = q
	}
	return p, nil
}

// read is the probe behind its next load; beside an error it is of no use.
func (p Probe) read(a *cells.Arena) (Probe, error) {
	switch p.at {
	case readAlert:
		return p.heed(a)
	case readAhead:
		return p.follow(a)
	case readCursor:
		return p.reach(a)
	case readShown:
		return p.walk(a)
	default:
		return p, nil
	}
}

// heed reads whether one should stop.
func (p Probe) heed(a *cells.Arena) (Probe, error) {
	sign, e := a.Load(p.barrier.alert)
	if e != nil {
		return p, e
	}
	p.sign = sign
	switch {
	case sign == Alerted:
		p.at = settled
	case p.barrier.ahead.Len() > 0:
		p.at, p.scan = readAhead, p.barrier.ahead.Scan(math.MaxInt64)
	default:
		p.at = readCursor
	}
	return p, nil
}

// follow reads what one more of those ahead is done with.
func (p Probe) follow(a *cells.Arena) (Probe, error) {
	scan, e := p.scan.Step(a)
	if e != nil {
		return p, e
	}
	p.scan = scan
	if scan.Done() {
		return p.upTo(scan.Least()), nil
	}
	return p, nil
}

// reach reads what the cursor has.
func (p Probe) reach(a *cells.Arena) (Probe, error) {
	most, e := a.Load(p.barrier.cursor)
	if e != nil {
		return p, e
	}
	if p.barrier.shown == nil || most < p.next {
		return p.upTo(most), nil
	}
	p.at, p.most = readShown, most
	return p, nil
}

// walk reads whether one index more is shown. It asks the cell itself: the buffer's own calls refuse an index above MaxSeq, which a cursor's cell may have.
func (p Probe) walk(a *cells.Arena) (Probe, error) {
	seq, b := p.found+1, p.barrier.shown
	round, e := a.Load(b.Cell(seq))
	if e != nil {
		return p, e
	}
	if round != b.Round(seq) {
		p.at = settled
		return p, nil
	}
	p.found = seq
	if seq >= p.most {
		p.at = settled
	}
	return p, nil
}

// upTo is the probe that is settled: all up to an index are there.
func (p Probe) upTo(seq int64) Probe {
	p.at, p.found = settled, max(p.found, seq)
	return p
}

// ahead is the index ahead of another one; the least number has none.
func ahead(seq int64) int64 { return max(seq, math.MinInt64+1) - 1 }
