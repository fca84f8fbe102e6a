package multi_test

import (
	"errors"
	"math/rand/v2"
	"noria/api"
	"noria/cells"
	"noria/multi"
	"slices"
	"testing"
)

// size is how many slots the plain sequencer has.
const size = 4

// plain is what a sequencer of four slots is by the chapter's words, with two who may hold it back.
type plain struct {
	claimed, seen int64
	held          [2]int64
	in            []int
	// The last index that is shown of each slot; -1: none.
	shown [size]int64
}

// both are a sequencer, its arena, and a plain one that goes along.
type both struct {
	*multi.Sequencer
	arena *cells.Arena
	*plain
}

// start is a sequencer of which so many indexes are claimed; the first one of two holds it back, done with some.
func start(t *testing.T, claimed, held int64) both {
	t.Helper()
	s, a := sequencer(t, size, -1, -1)
	p := &plain{claimed: -1, seen: -1, held: [2]int64{-1, -1}, in: []int{0, 1}, shown: [size]int64{-1, -1, -1, -1}}
	b := both{s, a, p}
	b.turn(1)
	for p.claimed < claimed {
		p.claim(1)
		claim(t, s, 1, p.claimed)
		b.more(0)
	}
	p.held[0] = held
	store(t, a, 0, held)
	return b
}

// least is that of what those who hold back have, and of what is claimed.
func (p *plain) least() int64 {
	v := p.claimed
	for _, i := range p.in {
		v = min(v, p.held[i])
	}
	return v
}

// remaining is how many may be claimed yet.
func (p *plain) remaining() int64 { return max(0, size-(p.claimed-p.least())) }

// claim claims so many, if they remain, whatever was seen: the last one, and whether they did.
func (p *plain) claim(n int64) (int64, bool) {
	if p.remaining() < n {
		return 0, false
	}
	if p.seen < p.claimed+n-size || p.seen > p.claimed {
		p.seen = p.least()
	}
	p.claimed += n
	return p.claimed, true
}

// highest is the last index up to which all are shown, from one on.
func (p *plain) highest(lo int64) int64 {
	for lo <= p.claimed && p.shown[lo%size] == lo {
		lo++
	}
	return lo - 1
}

// turn lets somebody leave, or begin to hold back with what is claimed then.
func (b both) turn(i int) bool {
	if at := slices.Index(b.in, i); at >= 0 {
		b.in = slices.Delete(b.in, at, at+1)
		return b.Gate().Drop(i) == nil
	}
	b.in = append(b.in, i)
	b.held[i] = b.plain.claimed
	return b.Gate().Add(i) == nil && b.arena.Store(i, b.held[i]) == nil
}

// more lets somebody be done with one more, if there is one.
func (b both) more(i int) bool {
	b.held[i] = min(b.held[i]+1, b.plain.claimed)
	return b.arena.Store(i, b.held[i]) == nil
}

// show publishes one index, that may be none.
func (b both) show(seq int64) bool {
	e := b.Publish(seq, seq)
	if seq < 0 || seq > b.plain.claimed {
		return errors.Is(e, api.ErrArg)
	}
	b.shown[seq%size] = seq
	return e == nil
}

// same says whether a sequencer tells what the plain one does.
func (b both) same() bool {
	seen, e := b.arena.Load(b.Cached())
	left, f := b.Remaining()
	for lo := range b.plain.claimed + 2 {
		if hi, e := b.Highest(lo); hi != b.highest(lo) || e != nil {
			return false
		}
	}
	return e == nil && f == nil && seen == b.seen && b.Claimed() == b.plain.claimed && left == b.remaining()
}

// bySteps is a claim by a Try that is gone on with till it is done.
func bySteps(s *multi.Sequencer, n int) (int64, error) {
	y, e := s.Try(n)
	for e == nil && !y.Done() {
		y, e = y.Step()
	}
	if e == nil && y.Full() {
		return 0, api.ErrFull
	}
	return y.Last(), e
}

// act does one of eight things, and says whether it went as the plain one says.
func (b both) act(claim func(*multi.Sequencer, int) (int64, error), what int) bool {
	switch what {
	case 0, 1:
		last, e := claim(b.Sequencer, 1+2*what)
		want, ok := b.plain.claim(int64(1 + 2*what))
		return last == want && (e == nil) == ok && (ok || errors.Is(e, api.ErrFull))
	case 2:
		return b.show(b.highest(max(0, b.plain.claimed-2)) + 1)
	case 3:
		return b.show(b.plain.claimed)
	case 4, 5:
		return b.turn(what - 4)
	default:
		return b.more(what - 6)
	}
}

// P10.1, P10.2, P10.3, P10.4: whatever is done behind each other, a sequencer answers as a plain one, and is ErrFull just if fewer
// remain; one that claims by steps tells of itself and its cells what one that claims at once does.
func TestAll(t *testing.T) {
	const long = 6
	for run := range 1 << (3 * long) {
		b, c := start(t, 2, 0), start(t, 2, 0)
		for i := range long {
			what := run >> (3 * i) & 7
			if !b.act((*multi.Sequencer).Claim, what) || !c.act(bySteps, what) || !b.same() || !c.same() {
				t.Fatalf("%o at %d: %v, not %v", run, i, numbers(b.arena), *b.plain)
			}
		}
		if !slices.Equal(all(b.Sequencer, b.arena), all(c.Sequencer, c.arena)) {
			t.Fatalf("%o: %v %v", run, all(b.Sequencer, b.arena), all(c.Sequencer, c.arena))
		}
	}
}

// one is a Try, and what it is by the chapter's words.
type one struct {
	multi.Try
	n, had, least int64
	// What it does next, and the places of those whose cells it has yet to read.
	next string
	in   []int
	// Fewer than it claims remained at one of its steps.
	fewer bool
}

// begin is a Try of so many.
func (b both) begin(n int64) one {
	y, _ := b.Try(int(n))
	return one{Try: y, n: n, next: "cursor"}
}

// enough says whether so little is enough for a Try.
func (o *one) enough(least int64) bool { return least >= o.had+o.n-size }

// read is what a Try does behind having read a cell of those who hold back, or none.
func (o *one) read() {
	switch {
	case len(o.in) > 0:
		o.next = "holder"
	case o.enough(o.least):
		o.next = "store"
	default:
		o.next = "full"
	}
}

// plainly is a step by the chapter's words.
func (o *one) plainly(p *plain) {
	o.fewer = o.fewer || p.remaining() < o.n
	switch o.next {
	case "cursor":
		o.had, o.next = p.claimed, "seen"
	case "seen":
		if o.enough(p.seen) && p.seen <= o.had {
			o.next = "swap"
			return
		}
		o.in, o.least = slices.Clone(p.in), o.had
		o.read()
	case "holder":
		o.least = min(o.least, p.held[o.in[0]])
		o.in = o.in[1:]
		o.read()
	case "store":
		p.seen, o.next = o.least, "swap"
	case "swap":
		o.next = "cursor"
		if p.claimed == o.had {
			p.claimed, o.next = o.had+o.n, "got"
		}
	}
}

// step is a step of a Try, and says what was wrong.
func (b both) step(o *one) string {
	was := b.arena.Steps()
	y, e := o.Step()
	if e != nil || b.arena.Steps() != was+1 {
		return "a step"
	}
	o.Try = y
	o.plainly(b.plain)
	last := int64(-1)
	if o.next == "got" {
		last = o.had + o.n
	}
	switch {
	case y.Full() != (o.next == "full") || y.Last() != last || y.Done() != (y.Full() || last >= 0):
		return "what it tells"
	case number(b.arena, b.Cursor()) != b.plain.claimed || number(b.arena, b.Cached()) != b.seen:
		return "the cells"
	case y.Full() && !o.fewer:
		return "full, though enough remained at each step"
	case b.plain.claimed-b.least() > size:
		return "more are claimed than there is room"
	}
	return ""
}

// crowd are some who claim: each begins anew behind its end, with another number of indexes.
type crowd struct {
	both
	list []one
	// Who claimed each index, from the first one on that was free at the beginning.
	first int64
	owner []int
	fulls int
}

// gather is a crowd of which each has gone on so far.
func gather(t *testing.T, b both, far ...int) *crowd {
	t.Helper()
	c := &crowd{both: b, first: b.plain.claimed + 1}
	for i, n := range far {
		c.list = append(c.list, b.begin(int64(i%size+1)))
		for range n {
			c.act(i)
		}
	}
	return c
}

// act is a step of one of the crowd, or what somebody who holds back does; it says what was wrong.
func (c *crowd) act(what int) string {
	if what >= len(c.list) {
		what -= len(c.list)
		if what < 2 && !c.more(what) || what >= 2 && !c.turn(what-2) {
			return "an act"
		}
		return ""
	}
	o := &c.list[what]
	why := c.step(o)
	if !o.Done() || why != "" {
		return why
	}
	if o.Full() {
		c.fulls++
	} else if why := c.own(what, o.Last()-o.n+1, o.Last()); why != "" {
		return why
	}
	*o = c.begin(o.n%size + 1)
	return ""
}

// own lets indexes be somebody's; it says if one of them is somebody else's, or was left out.
func (c *crowd) own(who int, lo, hi int64) string {
	for seq := lo; seq <= hi; seq++ {
		switch at := seq - c.first; {
		case at < int64(len(c.owner)):
			return "an index is claimed by two"
		case at > int64(len(c.owner)):
			return "an index is left out"
		}
		c.owner = append(c.owner, who)
	}
	if c.Claimed() != hi {
		return "what is claimed"
	}
	return ""
}

// P10.4, P10.5: three who claim, in all turns of some steps, from some beginnings on, and those who hold back, who go on, leave and
// begin between: each step is what the chapter says, no index is claimed by two, or left out, or without room, and a Try is Full
// only if fewer remained.
func TestTurns(t *testing.T) {
	const long, acts = 6, 6
	runs := 1
	for range long {
		runs *= acts
	}
	fulls, claims := 0, 0
	for _, far := range [][]int{{0, 0, 0}, {1, 1, 0}, {2, 2, 2}, {1, 3, 5}, {4, 0, 2}, {2, 1, 4}} {
		for run := range runs {
			c := gather(t, start(t, 3, 1), far...)
			for i := range long {
				what := run % acts
				run /= acts
				if what == 4 {
					what = 6
				}
				if why := c.act(what); why != "" {
					t.Fatal(far, run, i, why)
				}
			}
			fulls += c.fulls
			claims += len(c.owner)
		}
	}
	if fulls == 0 || claims == 0 {
		t.Fatal(fulls, claims)
	}
}

// P10.5: five who claim, in long runs of turns that a generator picks, always the same.
func TestLongTurns(t *testing.T) {
	fulls, claims := 0, 0
	for seed := range uint64(300) {
		r := rand.New(rand.NewPCG(seed, 7))
		c := gather(t, start(t, 5, 3), 0, 0, 0, 0, 0)
		for i := range 1000 {
			if why := c.act(r.IntN(9)); why != "" {
				t.Fatal(seed, i, why)
			}
		}
		fulls += c.fulls
		claims += len(c.owner)
	}
	if fulls < 1000 || claims < 1000 {
		t.Fatal(fulls, claims)
	}
}
