package barrier_test

import (
	"errors"
	"math"
	"noria/api"
	"noria/avail"
	"noria/barrier"
	"noria/cells"
	"noria/fault"
	"noria/pow"
	"slices"
	"testing"
)

// edges are numbers near the ends of their type, and near the bounds that the document names.
var edges = []int64{math.MinInt64, math.MinInt64 + 1, -api.MaxSeq, -2, -1, 0, 1, 2, 3, api.MaxSeq - 1, api.MaxSeq, api.MaxSeq + 1, math.MaxInt64 - 1, math.MaxInt64}

// indexes are those from 0 to MaxSeq near its ends.
var indexes = []int64{0, 1, 2, 3, 4, 9, 1 << 40, api.MaxSeq - 1, api.MaxSeq}

// arena is one whose cells have some numbers.
func arena(t *testing.T, l ...int64) *cells.Arena {
	t.Helper()
	a := cells.New()
	for _, v := range l {
		if _, e := a.Alloc(v); e != nil {
			t.Fatal(e)
		}
	}
	return a
}

// numbers are what an arena's cells have. It asks a clone: a load is a step.
func numbers(a *cells.Arena) []int64 {
	b := a.Clone()
	l := make([]int64, 0, b.Len())
	for id := range b.Len() {
		v, _ := b.Load(id)
		l = append(l, v)
	}
	return l
}

// buffer is one of so many slots, in new cells of an arena, in which some indexes are shown, in order.
func buffer(t *testing.T, a *cells.Arena, n int, l ...int64) *avail.Buffer {
	t.Helper()
	s, e := pow.Of(n)
	if e != nil {
		t.Fatal(e)
	}
	v, e := avail.New(a, s)
	if e != nil {
		t.Fatal(e)
	}
	for _, seq := range l {
		if e := v.Show(a, seq, seq); e != nil {
			t.Fatal(e)
		}
	}
	return v
}

// behind is a barrier behind a cursor's cell and some others.
func behind(t *testing.T, a *cells.Arena, cursor int, shown *avail.Buffer, after ...int) *barrier.Barrier {
	t.Helper()
	b, e := barrier.New(a, cursor, shown, after...)
	if b == nil || e != nil {
		t.Fatal(cursor, after, b, e)
	}
	return b
}

// store lets a cell have a number.
func store(t *testing.T, a *cells.Arena, id int, v int64) {
	t.Helper()
	if e := a.Store(id, v); e != nil {
		t.Fatal(id, e)
	}
}

// look wants one to be able to go up to this index, by Look, and by steps too.
func look(t *testing.T, b *barrier.Barrier, a *cells.Arena, next, want int64) {
	t.Helper()
	if hi, e := b.Look(a, next); hi != want || e != nil {
		t.Fatal(next, hi, want, e)
	}
	done(t, settle(t, b.Probe(next), a), want)
}

// step wants a probe to go on, by one load.
func step(t *testing.T, p barrier.Probe, a *cells.Arena) barrier.Probe {
	t.Helper()
	was := a.Steps()
	q, e := p.Step(a)
	if e != nil || p.Done() || a.Steps() != was+1 {
		t.Fatal(p.Done(), a.Steps()-was, e)
	}
	return q
}

// settle goes on till a probe is settled.
func settle(t *testing.T, p barrier.Probe, a *cells.Arena) barrier.Probe {
	t.Helper()
	for !p.Done() {
		p = step(t, p, a)
	}
	return p
}

// goes wants a probe for an index to be not settled, and to have read this sign.
func goes(t *testing.T, p barrier.Probe, next, sign int64) {
	t.Helper()
	if p.Done() || p.Available() != next-1 || p.Sign() != sign {
		t.Fatal(p.Done(), p.Available(), p.Sign(), next, sign)
	}
}

// done wants a probe to be settled: one may go up to this index.
func done(t *testing.T, p barrier.Probe, want int64) {
	t.Helper()
	if !p.Done() || p.Available() != want {
		t.Fatal(p.Done(), p.Available(), want)
	}
}

// upTo are the numbers from one on, up to another one.
func upTo(lo, hi int) []int {
	var l []int
	for id := lo; id <= hi; id++ {
		l = append(l, id)
	}
	return l
}

// The chapter's example.
func TestExample(t *testing.T) {
	a := arena(t, 4, 2)
	b := behind(t, a, 0, nil, 1)
	look(t, b, a, 1, 2)
	look(t, b, a, 3, 2)
}

// An alert's cell has the chapter's numbers.
func TestNumbers(t *testing.T) {
	if barrier.Quiet != 0 || barrier.Alerted != 1 || barrier.Drain != 2 {
		t.Fatal(barrier.Quiet, barrier.Alerted, barrier.Drain)
	}
}

// P12.1: New lays one cell, Quiet, behind all others, and changes none of these; it reads nothing.
func TestNew(t *testing.T) {
	full := make([]int64, api.MaxGroup+1)
	for i := range full {
		full[i] = int64(50 - i)
	}
	for _, after := range [][]int{nil, {}, {0}, {1}, {2, 1, 0}, upTo(1, api.MaxGroup), upTo(0, api.MaxGroup-1)} {
		for _, cursor := range []int{0, 1, api.MaxGroup} {
			a := arena(t, full...)
			for i := range 3 {
				b := behind(t, a, cursor, nil, after...)
				if b.Alert() != len(full)+i || a.Len() != len(full)+i+1 || a.Steps() != 0 || !slices.Equal(b.After(), after) {
					t.Fatal(b.Alert(), a.Len(), a.Steps(), b.After())
				}
				if l := numbers(a); !slices.Equal(l[:len(full)], full) || l[b.Alert()] != barrier.Quiet {
					t.Fatal(l)
				}
			}
		}
	}
}

// P12.1: an arena with room for one cell alone has room for a barrier.
func TestNewLast(t *testing.T) {
	a := cells.New()
	for a.Len() < api.MaxCells-1 {
		a.Alloc(6)
	}
	b := behind(t, a, api.MaxCells-2, nil, 0)
	if b.Alert() != api.MaxCells-1 {
		t.Fatal(b.Alert())
	}
	look(t, b, a, 3, 6)
	v, e := barrier.New(a, 0, nil)
	if v != nil || !errors.Is(e, api.ErrMany) || a.Len() != api.MaxCells {
		t.Fatal(v, e, a.Len())
	}
	refused(t, a, api.ErrNone, api.MaxCells)
	refused(t, a, api.ErrNone, 0, api.MaxCells)
	refused(t, a, api.ErrThere, 0, 1, 1)
	refused(t, a, api.ErrMany, 0, upTo(1, api.MaxGroup+1)...)
	refused(t, a, api.ErrMany, 0, upTo(1, api.MaxGroup)...)
}

// refused wants a barrier to be refused, and the arena to stay.
func refused(t *testing.T, a *cells.Arena, want error, cursor int, after ...int) {
	t.Helper()
	n, steps := a.Len(), a.Steps()
	if b, e := barrier.New(a, cursor, nil, after...); b != nil || !errors.Is(e, want) {
		t.Fatal(cursor, after, b, e, want)
	}
	if a.Len() != n || a.Steps() != steps {
		t.Fatal(cursor, after, a.Len(), a.Steps())
	}
}

// Errors: what New refuses, the first that the chapter names, and that nothing is laid.
func TestNewRefused(t *testing.T) {
	a := arena(t, make([]int64, 40)...)
	for _, id := range []int{-1, -2, math.MinInt, 40, 41, 1 << 32, api.MaxCells - 1, api.MaxCells, api.MaxCells + 1, math.MaxInt} {
		refused(t, a, api.ErrNone, id)
		refused(t, a, api.ErrNone, 0, id)
		refused(t, a, api.ErrNone, id, id)
		refused(t, a, api.ErrNone, 0, 1, 2, id)
		refused(t, a, api.ErrNone, 0, 1, 1, id)
		refused(t, a, api.ErrNone, id, 1, 1)
		refused(t, a, api.ErrNone, 0, append(upTo(0, 35), id)...)
	}
	refused(t, a, api.ErrThere, 0, 1, 1)
	refused(t, a, api.ErrThere, 0, 3, 0, 5, 0)
	refused(t, a, api.ErrThere, 0, append(upTo(0, 31), 4)...)
	refused(t, a, api.ErrThere, 0, append([]int{1, 1}, upTo(2, 39)...)...)
	refused(t, a, api.ErrMany, 0, upTo(0, 32)...)
	refused(t, a, api.ErrMany, 0, append(upTo(0, 32), 4)...)
	if b := behind(t, a, 0, nil, 0, 1); b.Alert() != 40 {
		t.Fatal(b.Alert())
	}
}

// Errors: without an arena all is ErrNil, whatever else is wrong.
func TestNewNil(t *testing.T) {
	v := buffer(t, cells.New(), 4)
	for _, cursor := range []int{-1, 0, api.MaxCells} {
		for _, after := range [][]int{nil, {0}, {-1}, {1, 1}, upTo(0, 40)} {
			for _, shown := range []*avail.Buffer{nil, v} {
				if b, e := barrier.New(nil, cursor, shown, after...); b != nil || !errors.Is(e, api.ErrNil) {
					t.Fatal(cursor, after, b, e)
				}
			}
		}
	}
}

// R3: what is handed in stays, behind its end too, and isn't kept; what is handed out is new.
func TestKeepsNothing(t *testing.T) {
	a := arena(t, 9, 7, 8, 3)
	l := []int{1, 2, 3, 77}
	b := behind(t, a, 0, nil, l[:2]...)
	if !slices.Equal(l, []int{1, 2, 3, 77}) {
		t.Fatal(l)
	}
	l[0] = 3
	look(t, b, a, 0, 7)
	b.After()[0] = 3
	_ = append(b.After()[:1], 3)
	if !slices.Equal(b.After(), []int{1, 2}) {
		t.Fatal(b.After())
	}
	look(t, b, a, 0, 7)
	v := buffer(t, a, 4, 0, 1, 2)
	c := behind(t, a, 0, v)
	*v = *buffer(t, a, 4, 0)
	look(t, c, a, 0, 2)
}

// P12.2: without others ahead, and without a buffer, the alert's cell is read, then the cursor's.
func TestCursor(t *testing.T) {
	for _, next := range indexes {
		for _, has := range edges {
			a := arena(t, 55, has)
			b := behind(t, a, 1, nil)
			p := b.Probe(next)
			goes(t, p, next, 0)
			p = step(t, p, a)
			goes(t, p, next, 0)
			p = step(t, p, a)
			done(t, p, max(next-1, has))
			look(t, b, a, next, max(next-1, has))
		}
	}
}

// P12.2: behind others, their cells are read, in order, and neither the cursor's nor the buffer's.
func TestAhead(t *testing.T) {
	for n := 1; n <= api.MaxGroup; n++ {
		a := arena(t, 3)
		v := buffer(t, a, 4)
		var after []int
		least := int64(math.MaxInt64)
		for i := range n {
			id, _ := a.Alloc(int64(100 + i*17%23))
			after = append(after, id)
			least = min(least, int64(100+i*17%23))
		}
		slices.Reverse(after)
		for _, shown := range []*avail.Buffer{nil, v} {
			b := behind(t, a, 0, shown, after...)
			p := step(t, b.Probe(2), a)
			for range n {
				goes(t, p, 2, 0)
				p = step(t, p, a)
			}
			done(t, p, least)
			look(t, b, a, 2, least)
			look(t, b, a, least, least)
			look(t, b, a, least+1, least)
			look(t, b, a, least+2, least+1)
		}
	}
}

// P12.2: whatever those ahead have.
func TestAheadAll(t *testing.T) {
	for _, x := range edges {
		for _, y := range edges {
			a := arena(t, 0, x, y)
			one, two := behind(t, a, 0, nil, 2), behind(t, a, 0, nil, 2, 1)
			for _, next := range indexes {
				look(t, one, a, next, max(next-1, y))
				look(t, two, a, next, max(next-1, min(x, y)))
			}
		}
	}
}

// P12.2: cells are read in the order in which they were named: what is written behind its load isn't seen, what is written ahead of it is.
func TestAheadOrder(t *testing.T) {
	after := []int{3, 1, 2}
	for at := range 4 {
		for i, id := range after {
			a := arena(t, 0, 20, 20, 20)
			p := step(t, behind(t, a, 0, nil, after...).Probe(5), a)
			for range at {
				p = step(t, p, a)
			}
			store(t, a, id, 8)
			want := int64(20)
			if i >= at {
				want = 8
			}
			done(t, settle(t, p, a), want)
		}
	}
}

// P12.2: with a buffer the cursor's cell is read, then, if that isn't below the index that is waited for, the buffer's, up to the first that isn't shown, or to what the cursor had.
func TestShown(t *testing.T) {
	for _, c := range []struct {
		cursor      int64
		shown       []int64
		next, want  int64
		loadsBehind int
	}{
		{-1, nil, 0, -1, 0},
		{0, nil, 0, -1, 1},
		{0, []int64{0}, 0, 0, 1},
		{0, []int64{0}, 1, 0, 0},
		{3, []int64{0, 1, 2, 3}, 0, 3, 4},
		{3, []int64{0, 1, 2, 3}, 2, 3, 2},
		{3, []int64{0, 1, 2, 3}, 3, 3, 1},
		{3, []int64{0, 1, 2, 3}, 4, 3, 0},
		{3, []int64{0, 1, 2, 3}, 9, 8, 0},
		{2, []int64{0, 1, 2, 3}, 0, 2, 3},
		{3, []int64{0, 1, 3}, 0, 1, 3},
		{3, []int64{0, 1, 3}, 2, 1, 1},
		{3, []int64{0, 1, 3}, 3, 3, 1},
		{3, []int64{1, 2, 3}, 0, -1, 1},
		{9, []int64{0, 1, 2, 3}, 0, 3, 5},
		{9, []int64{4, 5, 6, 7}, 4, 7, 5},
		{9, []int64{4, 5, 6, 7}, 0, -1, 1},
		{9, []int64{4, 5, 6, 7}, 8, 7, 1},
		{9, []int64{0, 1, 6, 7, 8, 9}, 6, 9, 4},
		{9, []int64{0, 1, 6, 7, 8, 9}, 5, 4, 1},
		{math.MaxInt64, []int64{4, 5, 6, 7}, 5, 7, 4},
	} {
		a := arena(t, 55, c.cursor)
		b := behind(t, a, 1, buffer(t, a, 4, c.shown...))
		p := b.Probe(c.next)
		for range 2 {
			goes(t, p, c.next, 0)
			p = step(t, p, a)
		}
		for range c.loadsBehind {
			goes(t, p, c.next, 0)
			p = step(t, p, a)
		}
		done(t, p, c.want)
		look(t, b, a, c.next, c.want)
	}
}

// P12.2: near MaxSeq, where a cursor's cell may have more than that.
func TestShownLast(t *testing.T) {
	for _, n := range []int{1, 2, 8, 1 << api.MaxShift} {
		a := arena(t, 0)
		b := behind(t, a, 0, buffer(t, a, n, api.MaxSeq-1, api.MaxSeq))
		for _, has := range []int64{api.MaxSeq - 2, api.MaxSeq - 1, api.MaxSeq, api.MaxSeq + 1, math.MaxInt64} {
			store(t, a, 0, has)
			look(t, b, a, api.MaxSeq, max(api.MaxSeq-1, min(has, api.MaxSeq)))
			if n > 1 {
				look(t, b, a, api.MaxSeq-1, min(has, api.MaxSeq))
			}
		}
	}
}

// P12.2: what is written ahead of its load is seen, behind it not.
func TestShownWrites(t *testing.T) {
	a := arena(t, 2)
	v := buffer(t, a, 4, 0, 1, 2, 3)
	b := behind(t, a, 0, v)
	p := step(t, b.Probe(0), a)
	store(t, a, 0, 3)
	p = step(t, p, a)
	store(t, a, 0, 1)
	store(t, a, v.Cell(0), -1)
	early := settle(t, p, a)
	done(t, early, -1)
	store(t, a, v.Cell(0), 0)
	p = step(t, p, a)
	store(t, a, v.Cell(0), -1)
	p = step(t, p, a)
	goes(t, p, 0, 0)
	late := p
	store(t, a, v.Cell(2), -1)
	done(t, settle(t, p, a), 1)
	store(t, a, v.Cell(2), 0)
	done(t, settle(t, late, a), 3)
}

// P12.2: what the alert's cell had is the sign; of Alerted it is settled at once, of any other number it goes on.
func TestSign(t *testing.T) {
	for _, sign := range edges {
		for _, next := range indexes {
			a := arena(t, 3, 2, 7)
			v := buffer(t, a, 4, 0, 1, 2, 3)
			for _, b := range []*barrier.Barrier{behind(t, a, 0, nil), behind(t, a, 0, v), behind(t, a, 0, nil, 2, 1), behind(t, a, 0, v, 1)} {
				store(t, a, b.Alert(), sign)
				p := b.Probe(next)
				goes(t, p, next, 0)
				p = step(t, p, a)
				if sign == barrier.Alerted {
					done(t, p, next-1)
				} else {
					goes(t, p, next, sign)
					store(t, a, b.Alert(), barrier.Alerted)
				}
				if p = settle(t, p, a); p.Sign() != sign || sign != barrier.Alerted && next < 2 && p.Available() < 2 {
					t.Fatal(p.Sign(), p.Available(), sign)
				}
			}
		}
	}
}

// P12.2: a step of a probe that is settled does nothing.
func TestDone(t *testing.T) {
	a := arena(t, 3, 2)
	v := buffer(t, a, 4, 0, 1)
	for _, alert := range []int64{barrier.Quiet, barrier.Alerted, barrier.Drain} {
		for _, b := range []*barrier.Barrier{behind(t, a, 0, nil), behind(t, a, 0, v), behind(t, a, 0, nil, 1)} {
			store(t, a, b.Alert(), alert)
			for _, next := range []int64{0, 2, 9} {
				p := settle(t, b.Probe(next), a)
				was, steps := p.Available(), a.Steps()
				for range 3 {
					q, e := p.Step(a)
					if e != nil || a.Steps() != steps || q.Sign() != alert {
						t.Fatal(next, e, a.Steps(), q.Sign())
					}
					done(t, q, was)
					p = q
				}
				if _, e := p.Step(cells.New()); e != nil {
					t.Fatal(e)
				}
			}
		}
	}
}

// P12.2: a probe is a value: a step of it leaves it as it was; a new one has read nothing.
func TestProbeValue(t *testing.T) {
	a := arena(t, 1)
	b := behind(t, a, 0, buffer(t, a, 4, 0, 1))
	store(t, a, b.Alert(), barrier.Drain)
	l := []barrier.Probe{b.Probe(0)}
	for i := range 4 {
		l = append(l, step(t, l[i], a))
	}
	for range 2 {
		goes(t, l[0], 0, 0)
		goes(t, l[1], 0, barrier.Drain)
		goes(t, l[2], 0, barrier.Drain)
		goes(t, l[3], 0, barrier.Drain)
		done(t, l[4], 1)
		for i := range 4 {
			step(t, l[i], a)
		}
	}
	goes(t, b.Probe(0), 0, 0)
}

// P12.2: neither a probe nor Look writes a cell.
func TestWritesNothing(t *testing.T) {
	a := arena(t, 3, 2, 7)
	v := buffer(t, a, 4, 0, 1, 3)
	l := []*barrier.Barrier{behind(t, a, 0, nil), behind(t, a, 0, v), behind(t, a, 0, nil, 2, 1), behind(t, a, 0, v, 1)}
	for _, sign := range []int64{barrier.Quiet, barrier.Alerted, barrier.Drain} {
		for _, b := range l {
			store(t, a, b.Alert(), sign)
		}
		was := numbers(a)
		for _, b := range l {
			for _, next := range indexes {
				settle(t, b.Probe(next), a)
				b.Look(a, next)
			}
		}
		if !slices.Equal(numbers(a), was) {
			t.Fatal(numbers(a), was)
		}
	}
}

// P12.3: Look tells what a probe tells, by as many loads; Drain doesn't end it.
func TestLook(t *testing.T) {
	a := arena(t, 3, 2, 7)
	v := buffer(t, a, 4, 0, 1, 3)
	for _, sign := range []int64{barrier.Quiet, barrier.Drain, -1, 3, math.MaxInt64} {
		for _, b := range []*barrier.Barrier{behind(t, a, 0, nil), behind(t, a, 0, v), behind(t, a, 0, nil, 2, 1), behind(t, a, 0, v, 1)} {
			store(t, a, b.Alert(), sign)
			for _, next := range indexes {
				was := a.Steps()
				want := settle(t, b.Probe(next), a).Available()
				loads := a.Steps() - was
				if hi, e := b.Look(a, next); hi != want || e != nil || a.Steps() != was+2*loads {
					t.Fatal(next, hi, want, e, loads, a.Steps()-was)
				}
			}
		}
	}
}

// P12.3: Alerted, Look is ErrAlerted, with the index ahead of the one that is waited for, whatever is there.
func TestLookAlerted(t *testing.T) {
	a := arena(t, 3, 2, 7)
	v := buffer(t, a, 4, 0, 1, 2, 3)
	for _, b := range []*barrier.Barrier{behind(t, a, 0, nil), behind(t, a, 0, v), behind(t, a, 0, nil, 2, 1), behind(t, a, 0, v, 1)} {
		store(t, a, b.Alert(), barrier.Alerted)
		for _, next := range indexes {
			was := a.Steps()
			if hi, e := b.Look(a, next); hi != next-1 || !errors.Is(e, api.ErrAlerted) || a.Steps() != was+1 {
				t.Fatal(next, hi, e, a.Steps()-was)
			}
		}
		store(t, a, b.Alert(), barrier.Quiet)
		look(t, b, a, 2, settle(t, b.Probe(2), a).Available())
	}
}

// P12.1: each barrier has an alert for itself.
func TestOwnAlert(t *testing.T) {
	a := arena(t, 3)
	b, c := behind(t, a, 0, nil), behind(t, a, 0, nil)
	store(t, a, b.Alert(), barrier.Alerted)
	look(t, c, a, 0, 3)
	if hi, e := b.Look(a, 0); hi != -1 || !errors.Is(e, api.ErrAlerted) {
		t.Fatal(hi, e)
	}
}

// plain is how far one may go by the chapter's words, and by how many loads that is told.
func plain(next, cursor int64, shown []int64, ahead []int64) (int64, int) {
	if len(ahead) > 0 {
		return max(next-1, slices.Min(ahead)), 1 + len(ahead)
	}
	if shown == nil || cursor < next {
		return max(next-1, cursor), 2
	}
	n := int64(len(shown))
	seq, loads := next, 2
	for seq <= cursor {
		loads++
		if shown[seq%n] != seq/n {
			break
		}
		seq++
	}
	return seq - 1, loads
}

// P12.2, P12.3: all of it together, held against a plain reckoning: any cursor, any slots' rounds, any who are ahead.
func TestAll(t *testing.T) {
	for code := range 27 * 8 * 4 {
		a := arena(t, int64(code/27%8)-1, int64(code%5), int64(code%7))
		v := buffer(t, a, 4)
		ahead := [][]int{nil, nil, {1}, {2, 1}}[code/27/8]
		var rounds, dones []int64
		for i := range 3 {
			rounds = append(rounds, int64(code/[]int{1, 3, 9}[i]%3)-1)
		}
		rounds = append(rounds, rounds[0])
		for i, r := range rounds {
			store(t, a, v.Cell(int64(i)), r)
		}
		for _, id := range ahead {
			dones = append(dones, numbers(a)[id])
		}
		cursor := numbers(a)[0]
		for next := range int64(9) {
			for _, shown := range []*avail.Buffer{nil, v} {
				b := behind(t, a, 0, shown, ahead...)
				told := rounds
				if shown == nil {
					told = nil
				}
				want, loads := plain(next, cursor, told, dones)
				was := a.Steps()
				look(t, b, a, next, want)
				if a.Steps() != was+2*loads {
					t.Fatal(code, next, a.Steps()-was, loads)
				}
			}
		}
	}
}

// Errors: of a nil barrier.
func TestNil(t *testing.T) {
	var nobody *barrier.Barrier
	a := arena(t, 5)
	if nobody.Alert() != -1 || len(nobody.After()) != 0 {
		t.Fatal(nobody.Alert(), nobody.After())
	}
	for _, next := range indexes {
		for _, at := range []*cells.Arena{nil, a} {
			if hi, e := nobody.Look(at, next); hi != 0 || !errors.Is(e, api.ErrNil) {
				t.Fatal(next, hi, e)
			}
		}
		p := nobody.Probe(next)
		for range 2 {
			if done(t, p, next-1); p.Sign() != 0 {
				t.Fatal(p.Sign())
			}
			q, e := p.Step(a)
			if e != nil {
				t.Fatal(e)
			}
			p = q
		}
		if q, e := p.Step(nil); !errors.Is(e, api.ErrNil) || !q.Done() {
			t.Fatal(e)
		}
	}
	if a.Steps() != 0 {
		t.Fatal(a.Steps())
	}
}

// Errors: without an arena a step and Look are ErrNil, and the probe is as it was, at each stage.
func TestNilArena(t *testing.T) {
	a := arena(t, 2, 9)
	v := buffer(t, a, 4, 0, 1, 2)
	for _, b := range []*barrier.Barrier{behind(t, a, 0, nil), behind(t, a, 0, v), behind(t, a, 0, nil, 1, 0)} {
		store(t, a, b.Alert(), barrier.Drain)
		if hi, e := b.Look(nil, 1); hi != 0 || !errors.Is(e, api.ErrNil) {
			t.Fatal(hi, e)
		}
		p := b.Probe(1)
		for {
			q, e := p.Step(nil)
			if !errors.Is(e, api.ErrNil) || q != p {
				t.Fatal(e)
			}
			if p.Done() {
				break
			}
			p = step(t, q, a)
		}
		done(t, p, 2)
	}
}

// first is an arena whose cells have what the first ones of another have.
func first(t *testing.T, a *cells.Arena, n int) *cells.Arena {
	t.Helper()
	return arena(t, numbers(a)[:n]...)
}

// Errors: of another arena, that lacks cells, a step and Look are ErrNone where they come to one: then the probe is as it was, and no step is counted.
func TestNone(t *testing.T) {
	a := cells.New()
	v := buffer(t, a, 4, 0, 1, 2)
	cursor, _ := a.Alloc(3)
	x, _ := a.Alloc(9)
	y, _ := a.Alloc(8)
	late := buffer(t, a, 4, 0, 1, 2, 3)
	for _, c := range []struct {
		b    *barrier.Barrier
		want int64
	}{
		{behind(t, a, cursor, nil), 3}, {behind(t, a, cursor, v), 2}, {behind(t, a, cursor, nil, x, y), 8}, {behind(t, a, cursor, late), 3},
	} {
		for n := range a.Len() + 1 {
			other := first(t, a, n)
			p, e := c.b.Probe(0), error(nil)
			for e == nil && !p.Done() {
				q, f := p.Step(other)
				if f != nil && q != p {
					t.Fatal(n, f)
				}
				p, e = q, f
			}
			steps := other.Steps()
			hi, f := c.b.Look(other, 0)
			if e == nil {
				if done(t, p, c.want); hi != c.want || f != nil || other.Steps() != 2*steps {
					t.Fatal(n, hi, f, other.Steps())
				}
				continue
			}
			if hi != 0 || !errors.Is(e, api.ErrNone) || !errors.Is(f, api.ErrNone) || other.Steps() != steps {
				t.Fatal(n, hi, e, f, steps, other.Steps())
			}
			done(t, settle(t, p, a), c.want)
		}
	}
}

// Errors: a buffer's cell that the arena lacks is missed only when it is come to.
func TestNoneShown(t *testing.T) {
	big := arena(t, make([]int64, 9)...)
	v := buffer(t, big, 4, 0, 1, 2, 3)
	a := arena(t, 3)
	b := behind(t, a, 0, v)
	for a.Len() < v.Cell(2) {
		a.Alloc(0)
	}
	if hi, e := b.Look(a, 0); hi != 0 || !errors.Is(e, api.ErrNone) || a.Steps() != 0 {
		t.Fatal(hi, e, a.Steps())
	}
	p := b.Probe(0)
	for range 4 {
		p = step(t, p, a)
	}
	if q, e := p.Step(a); !errors.Is(e, api.ErrNone) || q != p || a.Steps() != 4 {
		t.Fatal(e, a.Steps())
	}
	store(t, a, 0, 1)
	look(t, b, a, 0, 1)
	store(t, a, b.Alert(), barrier.Alerted)
	if hi, e := b.Look(a, 0); hi != -1 || !errors.Is(e, api.ErrAlerted) {
		t.Fatal(hi, e)
	}
}

// R1: no numbers, and no zero object, let a call panic, and each call ends.
func TestAnyNumbers(t *testing.T) {
	var zero barrier.Probe
	for _, has := range edges {
		a := arena(t, has, 7)
		v := buffer(t, a, 4, 0, 1)
		for _, next := range edges {
			for _, b := range []*barrier.Barrier{behind(t, a, 0, nil), behind(t, a, 0, v), behind(t, a, 1, v), behind(t, a, 0, v, 1), {}} {
				b.Look(a, next)
				b.Look(cells.New(), next)
				b.Alert()
				b.After()
				b.Probe(next).Available()
			}
		}
		zero.Step(a)
	}
	zero.Step(nil)
	zero.Done()
	zero.Available()
	zero.Sign()
}

// R6: nothing is reckoned beyond the ends of the type: ahead of the least number there is none.
func TestLeastNumber(t *testing.T) {
	a := arena(t, -5)
	p := behind(t, a, 0, nil).Probe(math.MinInt64)
	if p.Available() > math.MinInt64 {
		t.Fatal(p.Available())
	}
}

// Errors are numbers within faults, whose place tells for which index, or which cell.
func TestPlace(t *testing.T) {
	a := arena(t, 5)
	_, e := barrier.New(a, 0, nil, 0, 9)
	if op, seq, ok := fault.At(e); op != "barrier" || seq != 9 || !ok || fault.Code(e) != api.ErrNone {
		t.Fatal(op, seq, ok)
	}
	b := behind(t, a, 0, nil)
	store(t, a, b.Alert(), barrier.Alerted)
	_, e = b.Look(a, 3)
	if op, seq, ok := fault.At(e); op != "look" || seq != 3 || !ok || fault.Code(e) != api.ErrAlerted {
		t.Fatal(op, seq, ok)
	}
}
