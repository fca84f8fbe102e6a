package poller_test

import (
	"errors"
	"math"
	"noria/actor"
	"noria/api"
	"noria/barrier"
	"noria/fault"
	"noria/poller"
	"noria/room"
	"noria/wait"
	"slices"
	"testing"
)

// edges are numbers near the ends of their type, and near the bounds that the document names.
var edges = []int{math.MinInt, -2, -1, 0, 1, 2, 7, 8, 9, 31, 32, 33, 63, 64, 65, math.MaxInt}

// kinds are both kinds of rings.
var kinds = []room.Kind{room.Single, room.Multi}

// spin is a way of waiting.
var spin = wait.Way{Kind: wait.Spin}

// rings is a room with some rings of so many slots.
func rings(t *testing.T, n int, l ...room.Kind) *room.Room {
	t.Helper()
	r := room.New()
	for _, k := range l {
		if _, e := r.Ring(n, k); e != nil {
			t.Fatal(n, k, e)
		}
	}
	return r
}

// asker is a poller.
func asker(t *testing.T, r *room.Room, ring int, w wait.Way, after ...int) *poller.Poller {
	t.Helper()
	p, e := poller.New(r, ring, w, after...)
	if p == nil || e != nil {
		t.Fatal(ring, w, after, p, e)
	}
	return p
}

// alloc lays so many cells.
func alloc(t *testing.T, r *room.Room, n int) []int {
	t.Helper()
	l := make([]int, n)
	for i := range l {
		var e error
		if l[i], e = r.Arena().Alloc(-1); e != nil {
			t.Fatal(e)
		}
	}
	return l
}

// event is what is sent to an index.
func event(seq int64) api.Event { return api.Event{Key: 100 + seq, Val: -7 * seq} }

// claim claims so many indexes of a ring, and puts their events: the last one.
func claim(r *room.Room, ring, n int) (int64, error) {
	c, e := r.Claim(ring, n)
	for e == nil && !c.Done() {
		c, e = c.Step()
	}
	if e != nil {
		return 0, e
	}
	if c.Full() {
		return 0, api.ErrFull
	}
	for seq := c.Last() - int64(n) + 1; seq <= c.Last(); seq++ {
		if e := r.Slots(ring).Put(seq, event(seq)); e != nil {
			return 0, e
		}
	}
	return c.Last(), nil
}

// publish lets so many events more be published.
func publish(r *room.Room, ring, n int) error {
	last, e := claim(r, ring, n)
	for seq := last - int64(n) + 1; e == nil && seq <= last; {
		seq, e = r.Show(ring, seq, last)
	}
	return e
}

// number is what a cell has, without a step.
func number(r *room.Room, id int) int64 {
	v, _ := r.Arena().Clone().Load(id)
	return v
}

// one is 1 for true.
func one(ok bool) int64 {
	if ok {
		return 1
	}
	return 0
}

// told is all that a room, and a poller in it, tell without a step.
func told(r *room.Room, p *poller.Poller) []int64 {
	l := []int64{int64(p.Who()), int64(p.Ring()), int64(p.Cell()), int64(p.Alert()), p.Start(), p.Next(), int64(p.Pending()), one(p.Waits()), one(p.Left())}
	next, _ := r.Clock().Next()
	l = append(l, r.Clock().Now(), next, int64(r.Clock().Waiting()), int64(r.Rings()), int64(r.Arena().Len()), int64(r.Arena().Steps()))
	a := r.Arena().Clone()
	for id := range min(a.Len(), 100) {
		v, _ := a.Load(id)
		l = append(l, v)
	}
	for who := range r.Actors().Len() {
		l = append(l, int64(r.Actors().State(who)), one(r.Actors().Token(who)), int64(r.Actors().Wakes(who)))
	}
	for id := range r.Rings() {
		for _, x := range append(r.Waiting(id), r.Gate(id).Cells()...) {
			l = append(l, int64(x))
		}
		for seq := range r.Slots(id).Size().Slots() {
			x, _ := r.Slots(id).Get(seq)
			l = append(l, x.Key, x.Val)
		}
	}
	return l
}

// refused wants a call to be refused with this error, and nothing to have changed.
func refused(t *testing.T, r *room.Room, p *poller.Poller, want api.Errno, call func() error) {
	t.Helper()
	was := told(r, p)
	if e := call(); !errors.Is(e, want) || !fault.Is(e, want) {
		t.Fatal(want, e)
	}
	if now := told(r, p); !slices.Equal(was, now) {
		t.Fatal(want, was, now)
	}
}

// unmade wants New to be refused with this error, and nothing to have changed.
func unmade(t *testing.T, r *room.Room, want api.Errno, ring int, w wait.Way, after ...int) {
	t.Helper()
	refused(t, r, nil, want, func() error {
		p, e := poller.New(r, ring, w, after...)
		if p != nil {
			t.Fatal(ring, w, after, "a poller beside an error")
		}
		return e
	})
}

// P18.1: a poller is a new actor with two new cells, that begins behind what the cursor's cell has, and holds the ring back.
func TestNew(t *testing.T) {
	for _, k := range kinds {
		r := rings(t, 64, k, room.Multi, k)
		var held [3][]int
		for i, ring := range []int{2, 0, 2, 2, 1, 0} {
			if e := publish(r, ring, 1+i); e != nil {
				t.Fatal(e)
			}
			// What is claimed counts, where many claim, what is published, where one does.
			last, e := claim(r, ring, 1)
			if e != nil {
				t.Fatal(e)
			}
			if k == room.Single && ring != 1 {
				if last--; last != number(r, r.Cursor(ring)) {
					t.Fatal(last, "isn't what is published")
				}
			}
			was, ready := r.Arena().Len(), len(r.Actors().Runnable())
			p := asker(t, r, ring, wait.Way{Kind: wait.Kind(i % 4), Tries: 3, Time: 5}, held[ring]...)
			if p.Who() != i || p.Ring() != ring || r.Actors().Len() != i+1 || len(r.Actors().Runnable()) != ready+1 || r.Actors().Token(i) {
				t.Fatal(i, p.Who(), p.Ring(), r.Actors().Len())
			}
			if r.Arena().Len() != was+2 || min(p.Cell(), p.Alert()) != was || max(p.Cell(), p.Alert()) != was+1 {
				t.Fatal(i, was, r.Arena().Len(), p.Cell(), p.Alert())
			}
			if number(r, p.Cell()) != last || number(r, p.Alert()) != barrier.Quiet || p.Start() != last+1 || p.Next() != last+1 {
				t.Fatal(i, last, number(r, p.Cell()), p.Start(), p.Next())
			}
			held[ring] = append(held[ring], p.Cell())
			if !slices.Equal(r.Gate(ring).Cells(), held[ring]) || len(r.Waiting(ring)) != 0 || r.Clock().Waiting() != 0 {
				t.Fatal(i, r.Gate(ring).Cells(), r.Waiting(ring))
			}
			if p.Pending() != 0 || p.Waits() || p.Left() {
				t.Fatal(i, p.Pending(), p.Waits(), p.Left())
			}
		}
	}
}

// Errors of New: the first one that applies is told, whatever else is wrong.
func TestNewOrder(t *testing.T) {
	wants := []api.Errno{api.ErrNone, api.ErrArg, api.ErrNone, api.ErrMany, api.ErrThere}
	for _, crowd := range []func(*testing.T, *room.Room){crowdGroup, crowdActors} {
		for _, k := range kinds {
			for wrong := 1; wrong < 1<<len(wants); wrong++ {
				is := func(i int) bool { return wrong>>i&1 == 1 }
				r := rings(t, 2, k)
				after := alloc(t, r, 3)
				ring, w := 0, spin
				want := api.Errno(0)
				for i := len(wants) - 1; i >= 0; i-- {
					if is(i) {
						want = wants[i]
					}
				}
				if is(0) {
					ring = 1
				}
				if is(1) {
					w.Kind = 4
				}
				if is(3) {
					crowd(t, r)
				}
				if is(4) {
					after = append(after, after[1])
				}
				if is(2) {
					after = append(after, r.Arena().Len())
				}
				unmade(t, r, want, ring, w, after...)
			}
		}
	}
	if p, e := poller.New(nil, 9, wait.Way{Kind: 9}, -1); p != nil || !errors.Is(e, api.ErrNil) {
		t.Fatal(p, e)
	}
}

// crowdGroup lets a ring be held back by as many as may be.
func crowdGroup(t *testing.T, r *room.Room) {
	t.Helper()
	for _, id := range alloc(t, r, api.MaxGroup) {
		if e := r.Gate(0).Add(id); e != nil {
			t.Fatal(e)
		}
	}
}

// crowdActors lets there be as many actors as may be.
func crowdActors(t *testing.T, r *room.Room) {
	t.Helper()
	for range api.MaxActors {
		if _, _, e := r.Join(); e != nil {
			t.Fatal(e)
		}
	}
}

// Errors of New: the edges of each number.
func TestNewEdges(t *testing.T) {
	unmade(t, room.New(), api.ErrNone, 0, spin)
	for _, k := range kinds {
		r := rings(t, 2, room.Multi, k)
		for _, n := range edges {
			if n < 0 || n > 1 {
				unmade(t, r, api.ErrNone, n, spin)
				unmade(t, r, api.ErrNone, n, wait.Way{Kind: 4}, 0, 0)
			}
			if n < 0 || n >= r.Arena().Len() {
				unmade(t, r, api.ErrNone, 1, spin, n)
				unmade(t, r, api.ErrNone, 1, spin, 0, 1, n, 1)
			}
		}
		unmade(t, r, api.ErrNone, 1, spin, r.Arena().Len())
		unmade(t, r, api.ErrNone, 1, spin, 0, r.Arena().Len(), 0)
		for _, n := range []wait.Kind{math.MinInt, -1, 4, math.MaxInt} {
			unmade(t, r, api.ErrArg, 1, wait.Way{Kind: n})
		}
		for _, n := range []int{math.MinInt, -1, 1001, math.MaxInt} {
			unmade(t, r, api.ErrRange, 1, wait.Way{Kind: wait.Yield, Tries: n}, -1)
		}
		for _, n := range []int64{math.MinInt64, -1, 0, 1<<30 + 1, math.MaxInt64} {
			unmade(t, r, api.ErrRange, 1, wait.Way{Kind: wait.Timed, Time: n}, -1)
		}
		asker(t, r, 1, spin, 0, r.Arena().Len()-1)
		asker(t, r, 1, wait.Way{Kind: wait.Timed, Time: 1 << 30})
	}
}

// Errors of New: a cell that is named twice, or too many of them.
func TestNewAhead(t *testing.T) {
	r := rings(t, 2, room.Single)
	l := alloc(t, r, 40)
	most := l[:api.MaxGroup]
	unmade(t, r, api.ErrThere, 0, spin, l[0], l[0])
	unmade(t, r, api.ErrThere, 0, spin, l[3], l[1], l[2], l[3])
	unmade(t, r, api.ErrMany, 0, spin, l[:api.MaxGroup+1]...)
	unmade(t, r, api.ErrMany, 0, spin, l...)
	unmade(t, r, api.ErrThere, 0, spin, append(slices.Clone(most), l[31])...)
	unmade(t, r, api.ErrThere, 0, spin, append(slices.Clone(most), l[0], l[32])...)
	unmade(t, r, api.ErrMany, 0, spin, append(slices.Clone(most), l[32], l[0])...)
	if p := asker(t, r, 0, spin, most...); r.Gate(0).Len() != 1 || p.Who() != 0 {
		t.Fatal(r.Gate(0).Cells())
	}
}

// Errors of New: as many may hold a ring back, and as many actors may be, as the limits say, and no more.
func TestNewMany(t *testing.T) {
	for _, k := range kinds {
		r := rings(t, 2, k, k, k)
		for i := range api.MaxActors {
			if p := asker(t, r, i/api.MaxGroup, spin); p.Who() != i {
				t.Fatal(i, p.Who())
			}
			if i == api.MaxGroup-1 {
				unmade(t, r, api.ErrMany, 0, spin)
				unmade(t, r, api.ErrMany, 0, spin, 1, 1)
				unmade(t, r, api.ErrArg, 0, wait.Way{Kind: 4})
			}
		}
		unmade(t, r, api.ErrMany, 2, spin)
		unmade(t, r, api.ErrMany, 2, spin, 1, 1)
		unmade(t, r, api.ErrNone, 2, spin, -1)
	}
}

// Errors of New: where there are less than two cells left, nothing is laid.
func TestNewCells(t *testing.T) {
	for left := range 4 {
		r := rings(t, 2, room.Multi)
		alloc(t, r, api.MaxCells-left-r.Arena().Len())
		p, e := poller.New(r, 0, spin)
		if left > 1 {
			if e != nil || p.Cell()+p.Alert() != 2*(api.MaxCells-left)+1 || r.Actors().Len() != 1 || r.Gate(0).Len() != 1 {
				t.Fatal(left, p.Cell(), p.Alert(), e)
			}
			continue
		}
		if p != nil || !errors.Is(e, api.ErrMany) || r.Actors().Len() != 0 || r.Arena().Len() != api.MaxCells-left || r.Gate(0).Len() != 0 {
			t.Fatal(left, e, r.Actors().Len(), r.Arena().Len(), r.Gate(0).Cells())
		}
	}
}

// P18.1, errors: nil has nothing, and every call on it is ErrNil.
func TestNil(t *testing.T) {
	var p *poller.Poller
	if p.Who() != -1 || p.Ring() != -1 || p.Cell() != -1 || p.Alert() != -1 || p.Start() != 0 || p.Next() != 0 {
		t.Fatal(p.Who(), p.Ring(), p.Cell(), p.Alert(), p.Start(), p.Next())
	}
	if p.Pending() != 0 || p.Waits() || p.Left() {
		t.Fatal(p.Pending(), p.Waits(), p.Left())
	}
	if n, e := p.Step(); n != (api.Note{}) || !errors.Is(e, api.ErrNil) {
		t.Fatal(n, e)
	}
	if n, e := p.Leave(); n != (api.Note{}) || !errors.Is(e, api.ErrNil) {
		t.Fatal(n, e)
	}
	for _, n := range edges {
		if e := p.Poll(n); !errors.Is(e, api.ErrNil) {
			t.Fatal(n, e)
		}
	}
	if e := p.Receive(); !errors.Is(e, api.ErrNil) {
		t.Fatal(e)
	}
}

// R1: one that New didn't make doesn't panic either.
func TestUnmade(t *testing.T) {
	p := &poller.Poller{}
	for range 3 {
		p.Poll(1)
		p.Receive()
		p.Step()
		p.Leave()
	}
	if p.Alert() != -1 {
		t.Fatal(p.Alert(), p.Who(), p.Ring(), p.Cell(), p.Start(), p.Next(), p.Pending(), p.Waits(), p.Left())
	}
}

// until lets a poller step till a deed is seen: the note of that.
func until(t *testing.T, p *poller.Poller, d api.Deed) api.Note {
	t.Helper()
	for range 999 {
		n, e := p.Step()
		if e != nil {
			t.Fatal(e)
		}
		if n.Deed == d {
			return n
		}
	}
	t.Fatal(d, "isn't seen")
	return api.Note{}
}

// P18.1: calls stand one behind the other, and the actor is woken by each.
func TestCalls(t *testing.T) {
	for _, k := range kinds {
		r := rings(t, 128, k)
		p := asker(t, r, 0, spin)
		if e := publish(r, 0, 100); e != nil {
			t.Fatal(e)
		}
		for i := range api.MaxCalls {
			call := p.Receive
			if i%3 > 0 {
				call = func() error { return p.Poll(i % 3) }
			}
			if e := call(); e != nil || p.Pending() != i+1 || !p.Waits() || r.Actors().Wakes(0) != i+1 || !r.Actors().Token(0) {
				t.Fatal(k, i, e, p.Pending(), p.Waits(), told(r, p))
			}
		}
		for i := range api.MaxCalls {
			if p.Pending() != api.MaxCalls-i || p.Waits() != (i%3 == 0) {
				t.Fatal(k, i, p.Pending(), p.Waits())
			}
			lo := p.Next()
			if n := until(t, p, api.Returned); n != (api.Note{Deed: api.Returned, Lo: lo, Seq: lo + int64(i%3/2)}) {
				t.Fatal(k, i, lo, n)
			}
		}
		if p.Pending() != 0 || p.Waits() || p.Next() != api.MaxCalls+api.MaxCalls/3 {
			t.Fatal(k, p.Pending(), p.Waits(), p.Next())
		}
	}
}

// P18.1: who is parked is woken by a call, from a timer too.
func TestWoken(t *testing.T) {
	for i := range 2 {
		r := rings(t, 2, room.Multi)
		p := asker(t, r, 0, spin)
		if ok, e := r.Park(0, 9); !ok || e != nil {
			t.Fatal(ok, e)
		}
		call := []func() error{p.Receive, func() error { return p.Poll(1) }}[i]
		if e := call(); e != nil || r.Actors().State(0) != actor.Ready || r.Clock().Waiting() != 0 || r.Actors().Token(0) || p.Waits() != (i == 0) {
			t.Fatal(i, e, told(r, p))
		}
	}
}

// both wants a Poll and a Receive to be refused.
func both(t *testing.T, r *room.Room, p *poller.Poller, want api.Errno) {
	t.Helper()
	for _, n := range edges {
		refused(t, r, p, want, func() error { return p.Poll(n) })
	}
	refused(t, r, p, want, p.Receive)
}

// Errors of Poll and Receive: how many events, then how many calls.
func TestCallErrors(t *testing.T) {
	for _, k := range kinds {
		r := rings(t, 2, k)
		p := asker(t, r, 0, spin)
		wrong := func() {
			for _, n := range edges {
				if n < 1 || n > api.MaxBatch {
					refused(t, r, p, api.ErrArg, func() error { return p.Poll(n) })
				}
			}
		}
		wrong()
		for i := range api.MaxCalls {
			if e := p.Poll(1 + i); e != nil {
				t.Fatal(k, i, e)
			}
		}
		full := func() {
			wrong()
			refused(t, r, p, api.ErrMany, func() error { return p.Poll(1) })
			refused(t, r, p, api.ErrMany, func() error { return p.Poll(api.MaxBatch) })
			refused(t, r, p, api.ErrMany, p.Receive)
		}
		full()
		// The call that goes on counts, till it has ended.
		p.Step()
		full()
		until(t, p, api.Returned)
		if e := p.Receive(); e != nil || p.Pending() != api.MaxCalls {
			t.Fatal(k, e, p.Pending())
		}
		full()
	}
}

// Errors of Poll and Receive: one that stops takes no call, whatever is handed in.
func TestCallsAtEnd(t *testing.T) {
	for _, k := range kinds {
		for _, leaves := range []bool{true, false} {
			r := rings(t, 2, k)
			p := asker(t, r, 0, spin)
			if leaves {
				p.Leave()
			} else {
				r.Arena().Store(p.Alert(), barrier.Drain)
			}
			// Up to its last look it does.
			if e := p.Poll(1); e != nil {
				t.Fatal(e)
			}
			until(t, p, api.Returned)
			p.Step()
			for range 4 {
				both(t, r, p, api.ErrHalted)
				p.Step()
			}
			if r.Actors().State(0) != actor.Halted || p.Left() != leaves || p.Pending() != 0 {
				t.Fatal(k, leaves, told(r, p))
			}
		}
		// One that somebody else halted doesn't either, at whatever step.
		for far := range 9 {
			r := rings(t, 2, k)
			p := asker(t, r, 0, spin)
			p.Receive()
			if e := publish(r, 0, 1); e != nil {
				t.Fatal(e)
			}
			for range far {
				p.Step()
			}
			r.Halt(0)
			both(t, r, p, api.ErrHalted)
		}
	}
}

// step wants a step to be refused with this error.
func step(t *testing.T, r *room.Room, p *poller.Poller, want api.Errno) {
	t.Helper()
	refused(t, r, p, want, func() error {
		n, e := p.Step()
		if n != (api.Note{}) {
			t.Fatal(n, "beside an error")
		}
		return e
	})
}

// gone wants Leave to be refused: it has left.
func gone(t *testing.T, r *room.Room, p *poller.Poller) {
	t.Helper()
	refused(t, r, p, api.ErrNone, func() error {
		n, e := p.Leave()
		if n != (api.Note{}) {
			t.Fatal(n, "beside an error")
		}
		return e
	})
}

// Errors of Step: one that is parked, or halted, does none.
func TestStepErrors(t *testing.T) {
	for _, k := range kinds {
		for far := range 8 {
			r := rings(t, 2, k)
			p := asker(t, r, 0, spin)
			p.Poll(2)
			if e := publish(r, 0, 1); e != nil {
				t.Fatal(e)
			}
			for range far {
				p.Step()
			}
			r.Actors().Clear(0)
			r.Park(0, 5)
			step(t, r, p, api.ErrBusy)
			step(t, r, p, api.ErrBusy)
			r.Halt(0)
			step(t, r, p, api.ErrHalted)
			step(t, r, p, api.ErrHalted)
		}
	}
}

// P18.1: who is told to leave is alerted, and woken, whatever it does; it leaves by its steps, and may be told so once more till it has.
func TestLeave(t *testing.T) {
	for _, k := range kinds {
		for ring := range 2 {
			r := rings(t, 2, k, k)
			r.Join()
			p := asker(t, r, ring, wait.Way{Kind: wait.Timed, Time: 9})
			p.Receive()
			r.Actors().Clear(1)
			for range 6 {
				p.Step()
			}
			if r.Actors().State(1) != actor.Parked || r.Clock().Waiting() != 1 {
				t.Fatal(k, told(r, p))
			}
			for i := range 2 {
				n, e := p.Leave()
				if e != nil || n != (api.Note{Who: 1}) || number(r, p.Alert()) != barrier.Alerted || p.Left() || p.Pending() != 1 {
					t.Fatal(k, i, n, e, p.Left(), p.Pending())
				}
				if r.Actors().State(1) != actor.Ready || r.Actors().Wakes(1) != i+2 || r.Clock().Waiting() != 0 || r.Gate(ring).Len() != 1 {
					t.Fatal(k, i, told(r, p))
				}
			}
			var deeds []api.Deed
			for range 9 {
				if r.Actors().State(1) != actor.Ready {
					break
				}
				n, e := p.Step()
				deeds = append(deeds, n.Deed)
				if e != nil || p.Left() != (r.Gate(ring).Len() == 0) || p.Left() != slices.Contains(deeds, api.Left) {
					t.Fatal(k, deeds, e, p.Left())
				}
				if p.Left() {
					gone(t, r, p)
				}
			}
			if !slices.Equal(deeds, []api.Deed{api.Returned, api.Silent, api.Left, api.Silent, api.Stopped}) {
				t.Fatal(k, deeds)
			}
			gone(t, r, p)
			step(t, r, p, api.ErrHalted)
		}
	}
}

// P18.1: one that is Halted leaves at once: all who wait for news are told.
func TestLeaveHalted(t *testing.T) {
	for _, k := range kinds {
		for ring := range 2 {
			r := rings(t, 2, k, k)
			other, _, _ := r.Join()
			p := asker(t, r, ring, spin)
			if e := publish(r, ring, 1); e != nil {
				t.Fatal(e)
			}
			p.Poll(2)
			until(t, p, api.Returned)
			r.Arena().Store(p.Alert(), barrier.Drain)
			until(t, p, api.Stopped)
			r.Park(other, 0)
			r.Enlist(ring, other)
			if p.Left() || r.Gate(ring).Len() != 1 {
				t.Fatal(k, p.Left(), r.Gate(ring).Cells())
			}
			n, e := p.Leave()
			if e != nil || n != (api.Note{Who: 1, Ring: ring, Deed: api.Left}) || !p.Left() || number(r, p.Alert()) != barrier.Drain {
				t.Fatal(k, n, e, p.Left())
			}
			if r.Gate(ring).Len() != 0 || r.Actors().State(other) != actor.Ready || len(r.Waiting(ring)) != 0 || r.Actors().Wakes(1) != 1 {
				t.Fatal(k, told(r, p))
			}
			gone(t, r, p)
			step(t, r, p, api.ErrHalted)
		}
	}
}

// P18.1: one that somebody else halted leaves at once, too, with what its cell has; it may have calls, and its next index is yet the old
// one between its store and its signal.
func TestLeaveStopped(t *testing.T) {
	for far := range 8 {
		r := rings(t, 4, room.Single)
		p := asker(t, r, 0, spin)
		if e := publish(r, 0, 3); e != nil {
			t.Fatal(e)
		}
		p.Poll(2)
		p.Receive()
		for range far {
			p.Step()
		}
		r.Halt(0)
		want, next, calls := int64(-1), int64(0), 2
		if far > 4 {
			want = 1
		}
		if far > 5 {
			next, calls = 2, 1
		}
		n, e := p.Leave()
		if e != nil || n != (api.Note{Deed: api.Left, Seq: want}) || number(r, p.Cell()) != want || !p.Left() || r.Gate(0).Len() != 0 {
			t.Fatal(far, n, e, want)
		}
		if p.Next() != next || p.Pending() != calls {
			t.Fatal(far, p.Next(), p.Pending())
		}
		gone(t, r, p)
	}
}

// P18.1: it holds the ring back though its number was in the group ahead of it, and leaves though somebody took that out.
func TestGroup(t *testing.T) {
	r := rings(t, 2, room.Single)
	for i := range 2 {
		if e := r.Gate(0).Add(r.Arena().Len() + i); e != nil {
			t.Fatal(e)
		}
	}
	p := asker(t, r, 0, spin)
	if !slices.Contains(r.Gate(0).Cells(), p.Cell()) || r.Gate(0).Len() != 2 {
		t.Fatal(r.Gate(0).Cells(), p.Cell())
	}
	q := asker(t, r, 0, spin)
	for _, x := range []*poller.Poller{p, q} {
		r.Gate(0).Drop(x.Cell())
		x.Leave()
		until(t, x, api.Left)
		until(t, x, api.Stopped)
		if !x.Left() || slices.Contains(r.Gate(0).Cells(), x.Cell()) {
			t.Fatal(x.Left(), r.Gate(0).Cells())
		}
	}
}

// R3: the cells that are named are neither changed nor kept, nor is the room behind their end.
func TestHandedIn(t *testing.T) {
	r := rings(t, 4, room.Single)
	a := asker(t, r, 0, spin)
	b := asker(t, r, 0, spin)
	l := []int{a.Cell(), b.Cell(), 77, 78}
	p := asker(t, r, 0, spin, l[:2]...)
	if !slices.Equal(l, []int{a.Cell(), b.Cell(), 77, 78}) {
		t.Fatal(l)
	}
	for i := range l {
		l[i] = r.Cursor(0)
	}
	if e := publish(r, 0, 1); e != nil {
		t.Fatal(e)
	}
	p.Poll(1)
	if n := until(t, p, api.Returned); n.Code != api.ErrGating {
		t.Fatal(n, "it is behind both")
	}
}

// R4: no cells, and a nil list, are one.
func TestNobodyAhead(t *testing.T) {
	for _, l := range [][]int{nil, {}} {
		r := rings(t, 4, room.Single)
		p := asker(t, r, 0, spin, l...)
		if e := publish(r, 0, 1); e != nil {
			t.Fatal(e)
		}
		p.Receive()
		p.Step()
		p.Step()
		if n, e := p.Step(); e != nil || n != (api.Note{Deed: api.Handled, X: event(0)}) {
			t.Fatal(n, e)
		}
	}
}

// R5: two pollers are each for itself: calls of one, and what it is told, are nothing to the other.
func TestApart(t *testing.T) {
	r := rings(t, 4, room.Single)
	a, b := asker(t, r, 0, spin), asker(t, r, 0, spin)
	if e := publish(r, 0, 2); e != nil {
		t.Fatal(e)
	}
	a.Poll(2)
	a.Leave()
	until(t, a, api.Stopped)
	if b.Pending() != 0 || b.Next() != 0 || b.Left() || r.Actors().Token(1) || number(r, b.Alert()) != barrier.Quiet {
		t.Fatal(told(r, b))
	}
	b.Receive()
	if n := until(t, b, api.Returned); n != (api.Note{Who: 1, Deed: api.Returned}) || a.Next() != 0 || b.Next() != 1 {
		t.Fatal(n, a.Next(), b.Next())
	}
}

// fill publishes as many as there is room for: the last one.
func fill(t *testing.T, r *room.Room) int64 {
	t.Helper()
	for range 99 {
		if e := publish(r, 0, 1); errors.Is(e, api.ErrFull) {
			return number(r, r.Cursor(0))
		} else if e != nil {
			t.Fatal(e)
		}
	}
	t.Fatal("nobody holds back")
	return 0
}

// It holds the ring back from its making till it leaves: no index is claimed that is more than a size above what its cell has, and all
// up to there are.
func TestHolds(t *testing.T) {
	for _, k := range kinds {
		for shift := range 4 {
			for before := range int64(7) {
				r := rings(t, 1<<shift, k)
				for range before {
					if e := publish(r, 0, 1); e != nil {
						t.Fatal(e)
					}
				}
				p := asker(t, r, 0, spin)
				holds := func() {
					if last := fill(t, r); last != number(r, p.Cell())+1<<shift {
						t.Fatal(k, shift, before, last, number(r, p.Cell()))
					}
				}
				for i := range 80 {
					p.Poll(1 + i%4)
					p.Receive()
					holds()
					if n, e := p.Step(); e != nil || n.Deed == api.Handled && n.X != event(n.Seq) {
						t.Fatal(n, e)
					}
				}
				if p.Next() < before+8 {
					t.Fatal(k, shift, before, p.Next())
				}
				p.Leave()
				for n := 0; !p.Left() && n < 99; n++ {
					holds()
					p.Step()
				}
				for range 3 {
					if e := publish(r, 0, 1<<shift); e != nil {
						t.Fatal(k, shift, before, e)
					}
				}
			}
		}
	}
}
