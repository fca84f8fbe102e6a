package room_test

import (
	"errors"
	"math"
	"noria/api"
	"noria/cells"
	"noria/multi"
	"noria/room"
	"noria/single"
	"slices"
	"testing"
)

// slotCount is how many slots the rings of the twins have.
const slotCount = 4

// try is a Try of either sequencer.
type try interface {
	Done() bool
	Full() bool
	Last() int64
}

// twin is a ring of a room, and a sequencer for itself, in an arena that has the same cells.
type twin struct {
	*room.Room
	arena *cells.Arena
	one   *single.Sequencer
	many  *multi.Sequencer
	// How far claims came, and of each the same Try: of a ring of one there is one alone.
	claims []room.Claim
	tries  []try
	// Claims that found no room, and those that got some.
	fulls, gots int
}

// twins are a ring with two who may hold it back, the first of whom does, and a sequencer as it.
func twins(t *testing.T, k room.Kind) *twin {
	t.Helper()
	w := &twin{Room: room.New(), arena: cells.New()}
	for range 2 {
		w.Arena().Alloc(-1)
		w.arena.Alloc(-1)
	}
	ring(t, w.Room, slotCount, k)
	var e error
	w.claims, w.tries = make([]room.Claim, 1+int(k)), make([]try, 1+int(k))
	if k == room.Single {
		w.one, e = single.New(w.arena, slotCount)
		w.tries[0] = single.Try{}
	} else {
		w.many, e = multi.New(w.arena, slotCount)
		w.tries[0], w.tries[1] = multi.Try{}, multi.Try{}
	}
	if e != nil || !w.turn(0) {
		t.Fatal(e)
	}
	return w
}

// turn lets somebody leave, or begin to hold back with what the cursor has.
func (w *twin) turn(i int) bool {
	g := w.group()
	if slices.Contains(g.Cells(), i) {
		return g.Drop(i) == nil && w.Gate(0).Drop(i) == nil
	}
	at := numbers(w.arena)[w.Cursor(0)]
	return w.store(i, at) && g.Add(i) == nil && w.Gate(0).Add(i) == nil
}

// group is the sequencer's own.
func (w *twin) group() interface {
	Cells() []int
	Add(int) error
	Drop(int) error
} {
	if w.many != nil {
		return w.many.Gate()
	}
	return w.one.Gate()
}

// store lets somebody's cell have a number.
func (w *twin) store(i int, v int64) bool {
	return w.arena.Store(i, v) == nil && w.Arena().Store(i, v) == nil
}

// step begins with a claim, if it is done, else goes on with it.
func (w *twin) step(i, n int) bool {
	var c room.Claim
	var y try
	var e, f error
	was := w.Arena().Steps() - w.arena.Steps()
	switch x := w.tries[i].(type) {
	case single.Try:
		if x.Done() {
			y, e = w.one.Try(n)
		} else {
			y, e = x.Step()
		}
	case multi.Try:
		if x.Done() {
			y, e = w.many.Try(n)
		} else {
			y, e = x.Step()
		}
	}
	if w.claims[i].Done() {
		c, f = w.Claim(0, n)
	} else {
		c, f = w.claims[i].Step()
	}
	if w.Arena().Steps()-w.arena.Steps() != was {
		return false
	}
	w.claims[i], w.tries[i] = c, y
	if c.Full() {
		w.fulls++
	} else if c.Done() {
		w.gots++
	}
	return e == nil && f == nil && c.Done() == y.Done() && c.Full() == y.Full() && c.Last() == y.Last()
}

// show publishes an index, or all up to it, that may be none.
func (w *twin) show(at, hi int64) bool {
	next, e := w.Show(0, at, hi)
	var f error
	want := hi + 1
	switch {
	case at > hi:
		return next == 0 && errors.Is(e, api.ErrArg)
	case w.many != nil:
		want, f = at+1, w.many.Publish(at, at)
	default:
		f = w.one.Publish(hi)
	}
	if f != nil {
		return next == 0 && errors.Is(f, api.ErrArg) && errors.Is(e, api.ErrArg)
	}
	return next == want && e == nil
}

// published says whether both tell the same of what is published, from each index on.
func (w *twin) published() bool {
	for from := range int64(8) {
		want := from - 1
		var f error
		if w.many != nil {
			want, f = w.many.Highest(from)
		} else {
			want = max(want, w.one.Published())
		}
		if last, e := w.Published(0, from); last != want || e != nil || f != nil {
			return false
		}
	}
	return true
}

// act does one of eight things.
func (w *twin) act(what int) bool {
	last := numbers(w.arena)[w.Cursor(0)]
	switch what {
	case 0, 1:
		return w.step(what%len(w.claims), 1+what)
	case 2:
		return w.step(0, 3)
	case 3:
		return w.show(last, last)
	case 4:
		return w.show(last-1, last)
	case 5:
		return w.show(last+1, last+1+int64(len(w.claims)%2))
	case 6:
		return w.store(0, min(last, numbers(w.arena)[0]+1))
	default:
		return w.turn(1)
	}
}

// P14.2: whatever is done behind each other, a claim of a room tells step by step what one of the sequencer does, and leaves the same
// in the cells; so does what is shown, and what is published.
func TestClaims(t *testing.T) {
	const long = 6
	for _, k := range kinds {
		fulls, gots := 0, 0
		for run := range 1 << (3 * long) {
			w := twins(t, k)
			// From a ring that is half claimed on, so that some are full.
			ok := w.begin(2)
			for i := range long {
				ok = ok && w.act(run>>(3*i)&7)
			}
			ok = ok && slices.Equal(numbers(w.Arena()), numbers(w.arena))
			if !ok || !w.published() {
				t.Fatalf("%d %o: %v %v", k, run, numbers(w.Arena()), numbers(w.arena))
			}
			fulls += w.fulls
			gots += w.gots
		}
		if fulls == 0 || gots == 0 {
			t.Fatal(k, fulls, gots)
		}
	}
}

// begin claims so many, and publishes them.
func (w *twin) begin(n int64) bool {
	ok := w.step(0, int(n))
	for ok && !w.claims[0].Done() {
		ok = w.step(0, int(n))
	}
	if w.many == nil {
		return ok && w.show(0, n-1)
	}
	for seq := range n {
		ok = ok && w.show(seq, n-1)
	}
	return ok
}

// P14.2: a zero Claim is done, and there is nothing more to do.
func TestZeroClaim(t *testing.T) {
	var c room.Claim
	d, e := c.Step()
	if !c.Done() || !d.Done() || e != nil {
		t.Fatal(c.Done(), d.Done(), e)
	}
}

// P14.2: of one who claims, all up to an index are published at once, wherever it begins; of many one index alone.
func TestShow(t *testing.T) {
	r := room.New()
	ring(t, r, 8, room.Single)
	ring(t, r, 8, room.Multi)
	for id := range 2 {
		if c := claim(t, r, id, 6); c.Last() != 5 {
			t.Fatal(id, c.Last())
		}
	}
	for _, x := range []struct {
		id           int
		at, hi, next int64
		want         []int64
	}{
		{0, 2, 3, 4, []int64{3, 3, 3, 3, 3, 4}},
		{0, 4, 4, 5, []int64{4, 4, 4, 4, 4, 4}},
		{0, -7, 5, 6, []int64{5, 5, 5, 5, 5, 5, 5, 6}},
		{1, 1, 3, 2, []int64{-1, 1, 1, 2, 3}},
		{1, 0, 5, 1, []int64{1, 1, 1, 2, 3}},
		{1, 3, 3, 4, []int64{1, 1, 1, 3, 3}},
		{1, 2, math.MaxInt64, 3, []int64{3, 3, 3, 3, 3, 4}},
		{1, 5, 5, 6, []int64{3, 3, 3, 3, 3, 5}},
	} {
		if next, e := r.Show(x.id, x.at, x.hi); next != x.next || e != nil {
			t.Fatal(x, next, e)
		}
		for from, want := range x.want {
			if last, e := r.Published(x.id, int64(from)); last != want || e != nil {
				t.Fatal(x, from, last, want, e)
			}
		}
	}
}

// Errors: Show is ErrArg where at is above hi, and where the sequencer's Publish is; Published is ErrRange of what is no index.
func TestShowErrors(t *testing.T) {
	r := room.New()
	for id, k := range kinds {
		ring(t, r, 8, k)
		claim(t, r, id, 4)
		if next, e := r.Show(id, 0, int64(1-id)); next != int64(2-id) || e != nil {
			t.Fatal(id, next, e)
		}
		for _, at := range edges {
			for _, hi := range edges {
				ok := at <= hi && hi >= 2 && hi <= 3
				if k == room.Multi {
					ok = at <= hi && at >= 0 && at <= 3
				}
				if !ok {
					refused(t, r, api.ErrArg, func() (bool, error) { next, e := r.Show(id, at, hi); return next == 0, e })
				}
			}
		}
		for _, from := range edges {
			if from < 0 || from > api.MaxSeq {
				refused(t, r, api.ErrRange, func() (bool, error) { last, e := r.Published(id, from); return last == 0, e })
			} else if last, e := r.Published(id, from); last != max(from-1, int64(1-id)) || e != nil {
				t.Fatal(id, from, last, e)
			}
		}
	}
}

// Errors: Claim's are the Try's; beside one of a step the claim is as it was.
func TestClaimErrors(t *testing.T) {
	r := room.New()
	for id, k := range kinds {
		ring(t, r, 8, k)
		for _, n := range edges {
			if n < 1 || n > 8 {
				refused(t, r, api.ErrArg, func() (bool, error) { c, e := r.Claim(id, int(n)); return c.Done(), e })
			}
		}
		lost(t, r, id)
	}
	if e := r.Arena().Store(r.Cursor(1), api.MaxSeq-2); e != nil {
		t.Fatal(e)
	}
	c, e := r.Claim(1, 3)
	if e != nil {
		t.Fatal(e)
	}
	stays(t, c, api.ErrExhausted)
}

// lost wants a claim of all slots, behind one index that is claimed, to come to a cell that isn't there, and to stay ahead of it.
func lost(t *testing.T, r *room.Room, id int) {
	t.Helper()
	claim(t, r, id, 1)
	if _, e := r.Show(id, 0, 0); e != nil {
		t.Fatal(e)
	}
	if e := r.Gate(id).Add(api.MaxCells - 1); e != nil {
		t.Fatal(e)
	}
	c, e := r.Claim(id, 8)
	if e != nil {
		t.Fatal(id, e)
	}
	for range 9 {
		if d, e := c.Step(); e == nil {
			c = d
		}
	}
	stays(t, c, api.ErrNone)
	if e := r.Gate(id).Drop(api.MaxCells - 1); e != nil {
		t.Fatal(e)
	}
}

// stays wants a claim's next step to have this error, and the claim to be as it was, however often.
func stays(t *testing.T, c room.Claim, want api.Errno) {
	t.Helper()
	for range 3 {
		d, e := c.Step()
		if !errors.Is(e, want) || d.Done() || d.Full() || d.Last() != -1 {
			t.Fatal(want, e, d.Done(), d.Full(), d.Last())
		}
		c = d
	}
}
